/-
  The laws of tables: acts that are few, and little; an act's reply.
  Conditions: none.
-/
import Derived.Test.YtadecmjojnhlnaaTabN
import Derived.Test.YtadecmjojnhlnaaOpenT
namespace Go.Proofs.Ytadecmjojnhlnaa
open Go.RowKit

set_option maxRecDepth 100000 in
theorem reply15_calls (t : AcT) (w : World) (h : t.er < 256) : Calls Try.prog 10 #[.agg #[.int .u8 t.kd, .int .u8 t.cl, .int .u64 t.nm, .int .u8 t.er, .slice t.A t.ss.length t.c]] w (Says14 (.agg #[.int .i64 (t.er % 19 : Nat), .slice t.A t.ss.length t.c]) w) := by
  obtain ⟨kd, cl, nm, er, A, c, ss⟩ := t
  dsimp only at *
  generalize ss.length = m at *
  have hcast : ((er % 19 : Nat) : Int) = (er : Int) % 19 := by omega
  rw [hcast]
  go_enter Try.func10, Try.ntmps10
  go_wp2
  exact bodyPost_ret (results_cell_row Try.results10 _ _ (w.heap.size + 1) _ _ (0, 0) _ rfl (heap_alloc2_new w _ _) Try.underlying34 rfl sizeRp14) rfl
    ⟨rfl, alloc14 (alloc14 (Below.refl _ w) _) _⟩

def littleT (t : AcT) : Bool := decide (t.ss.length ≤ 10) && t.ss.all fun s => decide (s.size ≤ 50)
def few15 (l : List AcT) : Bool := l.all littleT && decide (l.length ≤ 40)
theorem few15_len {l : List AcT} (h : few15 l = true) : l.length ≤ 40 := by
  unfold few15 at h
  simp only [Bool.and_eq_true, decide_eq_true_eq] at h
  exact h.2
theorem few15_lit {l : List AcT} (h : few15 l = true) : ∀ t ∈ l, t.ss.length ≤ 10 ∧ ∀ s ∈ t.ss, s.size ≤ 50 := by
  unfold few15 at h
  simp only [Bool.and_eq_true] at h
  intro t ht
  have := List.all_eq_true.1 h.1 t ht
  unfold littleT at this
  simp only [Bool.and_eq_true, decide_eq_true_eq, List.all_eq_true] at this
  exact this
theorem RdAT.at15 {w : World} {A : Option Addr} {l : List AcT} (h : RdAT w A l) (k : Nat) (hk : k < l.length) :
    ∃ b off, A = some ⟨b, off, none⟩ ∧ w.cell? ⟨b, off + k * 5, none⟩ = some (.int .u8 l[k].kd) ∧ w.cell? ⟨b, off + k * 5 + 1, none⟩ = some (.int .u8 l[k].cl) ∧ w.cell? ⟨b, off + k * 5 + 2, none⟩ = some (.int .u64 l[k].nm) ∧
      w.cell? ⟨b, off + k * 5 + 3, none⟩ = some (.int .u8 l[k].er) ∧ w.cell? ⟨b, off + k * 5 + 4, none⟩ = some (.slice l[k].A l[k].ss.length l[k].c) := by
  obtain ⟨b, off, rfl, _, hc⟩ := h (by intro e; rw [e] at hk; exact absurd hk (Nat.not_lt_zero _))
  exact ⟨b, off, rfl, hc k hk 0 _ rfl, hc k hk 1 _ rfl, hc k hk 2 _ rfl, hc k hk 3 _ rfl, hc k hk 4 _ rfl⟩

set_option maxRecDepth 100000 in
set_option maxHeartbeats 1000000 in
theorem few15_calls (A : Option Addr) (c n : Nat) (l : List AcT) (w : World) (hl : n = l.length) (hn : n ≤ 9223372036854775807) (hr : RdAT w A l) (ho : ∀ t ∈ l, t.Ok w) :
    Calls Try.prog 7 #[.slice A n c] w (Says14 (.bool (few15 l)) w) := by
  have HR := Lib.hid hr
  have HL := Lib.hid hl
  have HO := Lib.hid ho
  clear hr hl ho
  obtain ⟨r, hr⟩ : ∃ r, r = few15 l := ⟨_, rfl⟩
  rw [← hr]
  have HRR := Lib.hid hr
  clear hr
  go_enter Try.func7, Try.ntmps7
  go_wp2
  go_loopg [4, 6, 9] n (fun gg _ _ s9 wr => ∃ k : Nat, k ≤ n ∧ n - k ≤ gg ∧ s9 = .int .i64 k ∧ Hid (Below w.heap.size w wr) ∧ Hid (∀ j (h : j < l.length), j < k → littleT l[j] = true))
  case atStart => exact ⟨0, Nat.zero_le _, by omega, rfl, Below.refl _ _, fun j _ hj => absurd hj (Nat.not_lt_zero _)⟩
  case round =>
    obtain ⟨k, hk, hg, rfl, HW, A0⟩ := hrel
    by_cases hlt : k < n
    · have hltz : (k : Int) < (n : Int) := by omega
      have hkl : k < l.length := HL.out ▸ hlt
      obtain ⟨b, off, rfl, c0, c1, c2, c3, c4⟩ := (HR.out.later HW.out).at15 k hkl
      have HX : Hid (littleT l[k] = true → ∀ j (h : j < l.length), j < k + 1 → littleT l[j] = true) := fun hq j h hj => by
        by_cases e : j = k
        · subst e; exact hq
        · exact A0.out j h (by omega)
      have HF : Hid (littleT l[k] = false → r = false) := fun hf => by
        rw [HRR.out]
        have : l.all littleT = false := List.all_eq_false.2 ⟨l[k], List.getElem_mem hkl, by rw [hf]; simp⟩
        unfold few15
        rw [this]; rfl
      have HB3 := Lib.hid (alloc14 HW.out (.cells #[.int .u8 (l[k].kd : Int), .int .u8 (l[k].cl : Int), .int .u64 (l[k].nm : Int), .int .u8 (l[k].er : Int), .slice l[k].A l[k].ss.length l[k].c] 30))
      have HS : Hid (RdS w l[k].A l[k].ss) := (HO.out _ (List.getElem_mem hkl)).tx.rd
      clear A0
      generalize l[k] = t at *
      unfold littleT at HX HF
      generalize t.kd = kd at *
      generalize t.cl = cl at *
      generalize t.nm = nm at *
      generalize t.er = er at *
      generalize t.A = A2 at *
      generalize t.c = q2 at *
      generalize t.ss = ss at *
      obtain ⟨m, hm⟩ : ∃ m, m = ss.length := ⟨_, rfl⟩
      rw [← hm] at c4 HB3 HX HF
      have HM := Lib.hid hm
      clear hm
      by_cases h1 : m ≤ 10
      · have z1 : decide ((m : Int) > 10) = false := by simp; omega
        have z2 : decide (10 < m) = false := by simp; omega
        go_wp2
        go_loopg [6, 20] m (fun gg2 _ s20 wr2 => ∃ j : Nat, j ≤ m ∧ m - j ≤ gg2 ∧ s20 = .int .i64 j ∧ Hid (Below w.heap.size w wr2) ∧ Hid (∀ p (hp : p < ss.length), p < j → ss[p].size ≤ 50))
        case atStart => exact ⟨0, Nat.zero_le _, by omega, rfl, HB3.out, fun p _ h => absurd h (Nat.not_lt_zero _)⟩
        case round =>
          obtain ⟨j, hj, hg2, rfl, HW2, H50⟩ := hrel
          by_cases hjt : j < m
          · have hjl : j < ss.length := HM.out ▸ hjt
            obtain ⟨b2, off2, rfl, hc2⟩ := (HS.out.later14 HW2.out).at14 j hjl
            by_cases h50 : ss[j].size ≤ 50
            · have y1 : decide ((ss[j].size : Int) > 50) = false := by simp; omega
              have y2 : decide (50 < ss[j].size) = false := by simp; omega
              have H51 : Hid (∀ p (hp : p < ss.length), p < j + 1 → ss[p].size ≤ 50) := fun p hp h => by
                by_cases e : p = j
                · subst e; exact h50
                · exact H50.out p hp (by omega)
              clear H50 HX HF h50
              generalize ss[j] = tx at hc2 y1 y2
              go_wp2
              go_roundg (m - (j + 1))
              case measure => omega
              case rel => exact ⟨j + 1, by omega, by omega, by go_num, HW2.out, H51.out⟩
            · have y1 : decide ((ss[j].size : Int) > 50) = true := by simp; omega
              have y2 : decide (50 < ss[j].size) = true := by simp; omega
              have hr : r = false := HF.out (by
                have : (ss.all fun s => decide (s.size ≤ 50)) = false := List.all_eq_false.2 ⟨ss[j], List.getElem_mem hjl, by simp; omega⟩
                rw [this, Bool.and_false])
              subst hr
              clear H50 HX HF h50
              generalize ss[j] = tx at hc2 y1 y2
              go_wp2
              go_ret
              exact ⟨rfl, HW2.out⟩
          · have hjz : ¬ (j : Int) < (m : Int) := by omega
            obtain rfl : j = m := by omega
            have HY := Lib.hid (HX.out (by
              have : (ss.all fun s => decide (s.size ≤ 50)) = true := by
                rw [List.all_eq_true]
                intro x hx
                obtain ⟨p, hp, rfl⟩ := List.getElem_of_mem hx
                exact decide_eq_true (H50.out p hp (by have := HM.out; omega))
              rw [this, decide_eq_true h1]; rfl))
            clear HX HF H50
            go_wp2
            go_roundg (n - (k + 1))
            case measure => omega
            case rel => exact ⟨k + 1, by omega, by omega, by go_num, HW2.out, HY.out⟩
      · have hr : r = false := HF.out (by rw [decide_eq_false h1]; rfl)
        subst hr
        have z1 : decide ((m : Int) > 10) = true := by simp; omega
        have z2 : decide (10 < m) = true := by simp; omega
        clear HX HF
        go_wp2
        go_ret
        exact ⟨rfl, HB3.out⟩
    · have hltz : ¬ (k : Int) < (n : Int) := by omega
      obtain rfl : k = n := by omega
      have hr0 : r = decide (k ≤ 40) := by
        rw [HRR.out]
        have : l.all littleT = true := by
          rw [List.all_eq_true]
          intro x hx
          obtain ⟨j, hj, rfl⟩ := List.getElem_of_mem hx
          exact A0.out j hj (by have := HL.out; omega)
        unfold few15
        rw [this, ← HL.out]; rfl
      have HZ := Lib.hid hr0
      clear A0 hr0
      by_cases h40 : k ≤ 40
      · have z1 : decide ((k : Int) ≤ 40) = true := by simp; omega
        go_wp2
        go_ret
        exact ⟨by rw [HZ.out, decide_eq_true h40]; rfl, HW.out⟩
      · have z1 : decide ((k : Int) ≤ 40) = false := by simp; omega
        go_wp2
        go_ret
        exact ⟨by rw [HZ.out, decide_eq_false h40]; rfl, HW.out⟩
end Go.Proofs.Ytadecmjojnhlnaa
