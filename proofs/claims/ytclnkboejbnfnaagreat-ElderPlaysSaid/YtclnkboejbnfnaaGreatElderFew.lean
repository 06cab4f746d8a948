/-
  The law's few tells whether acts are few and little; plain facts on rows that are filtered; users that are read out of a row.
  Conditions: each theorem's own.
-/
import Derived.Test.YtclnkboejbnfnaaGreatElderOwn
import Derived.Test.YtclnkboejbnfnaaGreatOpenE
namespace Go.Proofs.YtclnkboejbnfnaaGreat
open Go.RowKit Go.Maps Go.Sort Go.Shelf

/-- An act is little; acts are few, and little. -/
def little7 (t : Act7) : Bool := decide (t.nm.size ≤ 50) && decide (t.hs.size ≤ 50)
def few7 (l : List Act7) : Bool := l.all little7 && decide (l.length ≤ 60)

set_option maxRecDepth 100000 in
set_option maxHeartbeats 1000000 in
theorem few7_calls (A : Option Addr) (c n : Nat) (l : List Act7) (w : World) (hl : n = l.length) (hn : n ≤ 9223372036854775807) (hr : RdA7 w A l) :
    Calls Tryz.prog 5 #[.slice A n c] w (Tells5 (few7 l) w) := by
  have HR := Lib.hid hr
  have HL := Lib.hid hl
  clear hr hl
  obtain ⟨r, hr⟩ : ∃ r, r = few7 l := ⟨_, rfl⟩
  rw [← hr]
  have HRR := Lib.hid hr
  clear hr
  go_enter Tryz.func5, Tryz.ntmps5
  go_wp2
  go_loopg [4, 7] n (fun gg _ s7 wr => ∃ k : Nat, k ≤ n ∧ n - k ≤ gg ∧ s7 = .int .i64 k ∧ Hid (Below w.heap.size w wr) ∧ Hid (∀ j (h : j < l.length), j < k → little7 l[j] = true))
  case atStart => exact ⟨0, Nat.zero_le _, by omega, rfl, Below.refl _ _, fun j _ hj => absurd hj (Nat.not_lt_zero _)⟩
  case round =>
    obtain ⟨k, hk, hg, rfl, HW, A0⟩ := hrel
    by_cases hlt : k < n
    · have hltz : (k : Int) < (n : Int) := by omega
      have hkl : k < l.length := HL.out ▸ hlt
      obtain ⟨b, off, rfl, hb, hc⟩ := (HR.out.later HW.out) (by intro e; rw [e] at hkl; exact absurd hkl (Nat.not_lt_zero _))
      have c0 : wr.cell? ⟨b, off + k * 3, none⟩ = some (.int .u8 (l[k].kd : Int)) := hc k hkl 0 _ rfl
      have c1 : wr.cell? ⟨b, off + k * 3 + 1, none⟩ = some (.string l[k].nm) := hc k hkl 1 _ rfl
      have c2 : wr.cell? ⟨b, off + k * 3 + 2, none⟩ = some (.string l[k].hs) := hc k hkl 2 _ rfl
      have HX : Hid (little7 l[k] = true → ∀ j (h : j < l.length), j < k + 1 → little7 l[j] = true) := fun hq j h hj => by
        by_cases e : j = k
        · subst e; exact hq
        · exact A0.out j h (by omega)
      have HF : Hid (little7 l[k] = false → r = false) := fun hf => by
        rw [HRR.out]
        have : l.all little7 = false := List.all_eq_false.2 ⟨l[k], List.getElem_mem hkl, by rw [hf]; simp⟩
        unfold few7
        rw [this]; rfl
      have HB3 := Lib.hid (below_next HW.out (below_alloc (Below.refl wr.heap.size wr) (.cells #[.int .u8 (l[k].kd : Int), .string l[k].nm, .string l[k].hs] 29)))
      unfold little7 at HX HF
      clear hc hb A0
      generalize l[k].kd = kd at *
      generalize l[k].nm = nm at *
      generalize l[k].hs = hs at *
      by_cases h1 : nm.size ≤ 50
      · by_cases h2 : hs.size ≤ 50
        · have HY := Lib.hid (HX.out (by simp [h1, h2]))
          have z1 : ¬ (nm.size : Int) > 50 := by omega
          have z2 : ¬ (hs.size : Int) > 50 := by omega
          have y1 : ¬ 50 < nm.size := by omega
          have y2 : ¬ 50 < hs.size := by omega
          have x1 : decide ((nm.size : Int) > 50) = false := decide_eq_false z1
          have x2 : decide ((hs.size : Int) > 50) = false := decide_eq_false z2
          clear HX HF
          go_wp2
          go_roundg (n - (k + 1))
          case measure => omega
          case rel => exact ⟨k + 1, by omega, by omega, by go_num, HB3, HY⟩
        · have hr : r = false := HF.out (by simp [h2])
          subst hr
          have z1 : ¬ (nm.size : Int) > 50 := by omega
          have z2 : (hs.size : Int) > 50 := by omega
          have y1 : ¬ 50 < nm.size := by omega
          have y2 : 50 < hs.size := by omega
          have x1 : decide ((nm.size : Int) > 50) = false := decide_eq_false z1
          have x2 : decide ((hs.size : Int) > 50) = true := decide_eq_true z2
          clear HX HF
          go_wp2
          go_ret
          exact ⟨rfl, HB3.out⟩
      · have hr : r = false := HF.out (by simp [h1])
        subst hr
        have z1 : (nm.size : Int) > 50 := by omega
        have y1 : 50 < nm.size := by omega
        have x1 : decide ((nm.size : Int) > 50) = true := decide_eq_true z1
        clear HX HF
        go_wp2
        go_ret
        exact ⟨rfl, HB3.out⟩
    · have hltz : ¬ (k : Int) < (n : Int) := by omega
      obtain rfl : k = n := by omega
      have hr0 : r = decide (k ≤ 60) := by
        rw [HRR.out]
        have : l.all little7 = true := by
          rw [List.all_eq_true]
          intro x hx
          obtain ⟨j, hj, rfl⟩ := List.getElem_of_mem hx
          exact A0.out j hj (by have := HL.out; omega)
        unfold few7
        rw [this, ← HL.out]; rfl
      have HZ := Lib.hid hr0
      clear A0 hr0
      by_cases h60 : k ≤ 60
      · have z : (k : Int) ≤ 60 := by omega
        go_wp2
        go_ret
        exact ⟨by rw [HZ.out, decide_eq_true h60]; rfl, HW.out⟩
      · have z : ¬ (k : Int) ≤ 60 := by omega
        go_wp2
        go_ret
        exact ⟨by rw [HZ.out, decide_eq_false h60]; rfl, HW.out⟩

theorem filter_at {α : Type} (q : α → Bool) : ∀ (ls : List α) (k : Nat) (hk : k < ls.length), q ls[k] = true → (ls.filter q)[((ls.take k).filter q).length]? = some ls[k]
  | [], _, hk, _ => absurd hk (Nat.not_lt_zero _)
  | x :: ls, 0, _, h => by
    have : q x = true := h
    simp [this]
  | x :: ls, k + 1, hk, h => by
    have ih := filter_at q ls k (by simpa using hk) (by simpa using h)
    rw [List.take_succ_cons, List.filter_cons, List.filter_cons]
    cases q x <;> simp [ih]
theorem filter_step {α : Type} (q : α → Bool) (ls : List α) (k : Nat) (hk : k < ls.length) : ((ls.take (k + 1)).filter q).length = ((ls.take k).filter q).length + if q ls[k] then 1 else 0 := by
  rw [List.take_succ_eq_append_getElem hk, List.filter_append, List.length_append]
  cases h : q ls[k] <;> simp [h]

/-- The slice v reads as these users. -/
def Us7 (w : World) (v : Value) (L : Row7) : Prop := ∃ A c, v = .slice A L.length c ∧ ∀ j (h : j < L.length), ∃ g, A = some ⟨g, 0, none⟩ ∧ ∀ i u, (usr7 L[j])[i]? = some u → w.cell? ⟨g, j * 5 + i, none⟩ = some u
theorem Us7.later {w w' : World} {v : Value} {L : Row7} (h : Us7 w v L) (hb : Below w.heap.size w w') : Us7 w' v L := by
  obtain ⟨A, c, e, hc⟩ := h
  exact ⟨A, c, e, fun j hj => by obtain ⟨g, e, h⟩ := hc j hj; exact ⟨g, e, fun i u hu => (hb.cell (p := ⟨g, j * 5 + i, none⟩) (World.block_lt_of_cell? w _ (h i u hu))).trans (h i u hu)⟩⟩
theorem Us7.of_users {w : World} {base : Nat} {v : Value} {L : Row7} (h : Users7 L base w v) : Us7 w v L := by
  have hs : ∃ A c, v = .slice A L.length c := by
    rcases h.2 with ⟨rfl, h0⟩ | ⟨g, cap, cur, rfl, _⟩
    · exact ⟨none, 0, by rw [h0]⟩
    · exact ⟨_, _, rfl⟩
  obtain ⟨A, c, rfl⟩ := hs
  refine ⟨A, c, rfl, fun j hj => ?_⟩
  rcases h.2 with ⟨_, h0⟩ | ⟨g, cap, cur, e1, _⟩
  · omega
  · injection e1 with e1
    subst e1
    refine ⟨g, rfl, fun i u hu => ?_⟩
    have hi : i < 5 := (List.getElem?_eq_some_iff.1 hu).1
    have := World.ownsRow.cells h (g := g) rfl (j * 5 + i) u (by rw [usr7_at L j i hj hi]; exact hu)
    rw [Addr.add_lit, Nat.zero_add] at this
    exact this
end Go.Proofs.YtclnkboejbnfnaaGreat
