/-
  The law's 'few' tells whether items are few and little, and turns nothing that was there.
  Conditions: none but that the items can be read.
-/
import Derived.Test.YtgipafdfmghogaaSame
namespace Go.Proofs.Ytgipafdfmghogaa
open Go.RowKit

/-- An item, as it lies in memory: eight cells, and the texts of its row. -/
structure It where
  kind : Int
  x : Int
  is : Bool
  s : ByteArray
  la : Option Addr
  ls : List ByteArray
  lc : Nat
  most : Int
  long : Int
  e : Int

def It.cells (t : It) : List Value :=
  [.int .u8 t.kind, .int .u64 t.x, .bool t.is, .string t.s, .slice t.la t.ls.length t.lc, .int .i64 t.most, .int .i64 t.long, .int .i64 t.e]

/-- A slice that reads as items, nil let in. -/
def RdI (w : World) (A : Option Addr) (its : List It) : Prop :=
  (its ≠ [] → ∃ b off, A = some ⟨b, off, none⟩ ∧ b < w.heap.size ∧ ∀ i (hi : i < its.length), ∀ j u, its[i].cells[j]? = some u → w.cell? ⟨b, off + i * 8 + j, none⟩ = some u) ∧
  ∀ t ∈ its, RdS w t.la t.ls ∧ t.s.size ≤ 9223372036854775807 ∧ t.ls.length ≤ 9223372036854775807 ∧ ∀ s ∈ t.ls, s.size ≤ 9223372036854775807

theorem RdI.still {w w' : World} {A : Option Addr} {its : List It} (h : RdI w A its) (ht : Turns (fun _ => False) w w') : RdI w' A its := by
  refine ⟨fun hn => ?_, fun t hm => ⟨(h.2 t hm).1.still ht, (h.2 t hm).2⟩⟩
  obtain ⟨b, off, rfl, hb, hc⟩ := h.1 hn
  exact ⟨b, off, rfl, Nat.lt_of_lt_of_le hb ht.size, fun i hi j u hu => (ht.cell (p := ⟨b, off + i * 8 + j, none⟩) hb (fun f => f)).trans (hc i hi j u hu)⟩
def itOk (t : It) : Bool := decide (t.s.size ≤ 100) && decide (t.ls.length ≤ 10) && t.ls.all fun s => decide (s.size ≤ 50)
def fewB (its : List It) : Bool := its.all itOk && decide (its.length ≤ 30)

theorem RdI.at_ {w : World} {A : Option Addr} {its : List It} (h : RdI w A its) (k : Nat) (hk : k < its.length) :
    ∃ (b off : Nat) (t : It), A = some ⟨b, off, none⟩ ∧ b < w.heap.size ∧ (∀ j u, t.cells[j]? = some u → w.cell? ⟨b, off + k * 8 + j, none⟩ = some u) ∧ RdS w t.la t.ls ∧
      t.s.size ≤ 9223372036854775807 ∧ t.ls.length ≤ 9223372036854775807 ∧ (∀ s ∈ t.ls, s.size ≤ 9223372036854775807) ∧ (its[k]? = some t) := by
  obtain ⟨b, off, rfl, hb, hc⟩ := h.1 (by intro e; subst e; simp at hk)
  have hm := h.2 _ (List.getElem_mem hk)
  exact ⟨b, off, its[k], rfl, hb, hc k hk, hm.1, hm.2.1, hm.2.2.1, hm.2.2.2, List.getElem?_eq_getElem hk⟩
theorem fewB_bad {its : List It} {k : Nat} {t : It} (hk : its[k]? = some t) (h : itOk t = false) : fewB its = false := by
  have : its.all itOk = false := by
    rw [List.all_eq_false]
    exact ⟨t, List.mem_of_getElem? hk, by simp [h]⟩
  simp [fewB, this]
theorem fewB_next {its : List It} {k : Nat} {t : It} (hk : its[k]? = some t) (h : itOk t = true) (ha : (its.take k).all itOk = true) : (its.take (k + 1)).all itOk = true := by
  obtain ⟨hl, he⟩ := List.getElem?_eq_some_iff.1 hk
  rw [List.take_succ_eq_append_getElem hl, List.all_append, ha, he]
  simp [h]
theorem fewB_end {its : List It} (ha : (its.take its.length).all itOk = true) : fewB its = decide (its.length ≤ 30) := by
  rw [List.take_length] at ha
  simp only [fewB, ha, Bool.true_and]
theorem itOk_s {t : It} (h : ¬ t.s.size ≤ 100) : itOk t = false := by simp [itOk, h]
theorem itOk_l {t : It} (h : ¬ t.ls.length ≤ 10) : itOk t = false := by simp [itOk, h]
theorem itOk_at {t : It} (k : Nat) (hk : k < t.ls.length) (h : ¬ t.ls[k].size ≤ 50) : itOk t = false := by
  have : (t.ls.all fun s => decide (s.size ≤ 50)) = false := by
    rw [List.all_eq_false]
    exact ⟨_, List.getElem_mem hk, by simp [h]⟩
  simp [itOk, this]
theorem itOk_all {t : It} (h1 : t.s.size ≤ 100) (h2 : t.ls.length ≤ 10) (h : ∀ i (hi : i < t.ls.length), t.ls[i].size ≤ 50) : itOk t = true := by
  have : (t.ls.all fun s => decide (s.size ≤ 50)) = true := by
    rw [List.all_eq_true]
    intro s hs
    obtain ⟨i, hi, rfl⟩ := List.mem_iff_getElem.1 hs
    simp [h i hi]
  simp [itOk, this, h1, h2]

set_option maxHeartbeats 2000000 in
theorem few_calls (A : Option Addr) (c : Nat) (its : List It) (w : World) (h : RdI w A its) (hm : its.length ≤ 9223372036854775807) :
    Calls Try.prog 9 #[.slice A its.length c] w (Told (fewB its) w) := by
  have HI := Lib.hid h
  clear h
  obtain ⟨n, hn⟩ : ∃ n, n = its.length := ⟨_, rfl⟩
  rw [← hn] at hm ⊢
  have HN := Lib.hid hn
  clear hn
  go_enter Try.func9, Try.ntmps9
  go_wp2
  go_loopw [9] (fun i wr => ∃ k : Nat, k ≤ n ∧ i = .int .i64 k ∧ (its.take k).all itOk = true ∧ Turns (fun _ => False) w wr) (fun i _ => n - (intOf i).toNat)
  case atStart => exact ⟨0, Nat.zero_le _, rfl, by simp, Turns.refl _ _⟩
  case round =>
    obtain ⟨k, hk, rfl, hok, ht⟩ := hrel
    have HOK := Lib.hid hok
    have HT := Lib.hid ht
    clear hok ht
    by_cases hlt : k < n
    · have k1 : k < its.length := by have := HN.out; omega
      obtain ⟨b, off, t, rfl, hb, hcl, hrs, hs1, hs2, hs3, hit⟩ := (HI.out.still HT.out).at_ k k1
      have HB : Hid (itOk t = false → fewB its = false) := fewB_bad hit
      have HG : Hid (itOk t = true → (its.take (k + 1)).all itOk = true) := fun h => fewB_next hit h HOK.out
      have HIA : Hid (∀ j (hj : j < t.ls.length), ¬ t.ls[j].size ≤ 50 → itOk t = false) := fun j hj h => itOk_at j hj h
      have HIL : Hid (¬ t.ls.length ≤ 10 → itOk t = false) := itOk_l
      have HIS : Hid (¬ t.s.size ≤ 100 → itOk t = false) := itOk_s
      have HIO : Hid (t.s.size ≤ 100 → t.ls.length ≤ 10 → (∀ i (hi : i < t.ls.length), t.ls[i].size ≤ 50) → itOk t = true) := itOk_all
      have c0 : wr.cell? ⟨b, off + k * 8, none⟩ = _ := hcl 0 _ rfl
      have c1 := hcl 1 _ rfl
      have c2 := hcl 2 _ rfl
      have c3 := hcl 3 _ rfl
      have c4 := hcl 4 _ rfl
      have c5 := hcl 5 _ rfl
      have c6 := hcl 6 _ rfl
      have c7 := hcl 7 _ rfl
      have HRS := Lib.hid hrs
      have HS3 := Lib.hid hs3
      clear hcl hrs hs3 k1 hit
      generalize itOk t = ok at *
      obtain ⟨kd, x, is, s, la, ls, lc, mo, lo, ee⟩ := t
      dsimp only at *
      by_cases b1 : s.size ≤ 100
      · by_cases b2 : ls.length ≤ 10
        · have db1 : decide (100 < (s.size : Int)) = false := by simp; omega
          have db2 : decide (10 < (ls.length : Int)) = false := by simp; omega
          go_wp2
          obtain ⟨wa, HWA⟩ : ∃ wa, Hid (wa = wr.alloc (.cells #[.int .u8 kd, .int .u64 x, .bool is, .string s, .slice la ls.length lc, .int .i64 mo, .int .i64 lo, .int .i64 ee] 27)) := ⟨_, rfl⟩
          rw [← HWA.out]
          have hta : Turns (fun _ => False) w wa := by rw [HWA.out]; exact HT.out.alloc _
          have HRA : Hid (RdS wa la ls) := by rw [HWA.out]; exact Lib.hid (HRS.out.still ((Turns.refl _ _).alloc _))
          have HTA := Lib.hid hta
          clear hta HWA c0 c1 c2 c3 c4 c5 c6 c7
          go_loopw [26] (fun i wi => ∃ j : Nat, j ≤ ls.length ∧ i = .int .i64 j ∧ (∀ i (hi : i < ls.length), i < j → ls[i].size ≤ 50) ∧ Turns (fun _ => False) wa wi) (fun i _ => ls.length - (intOf i).toNat)
          case atStart => exact ⟨0, Nat.zero_le _, rfl, fun _ _ h => absurd h (by omega), Turns.refl _ _⟩
          case round =>
            obtain ⟨j, hj, rfl, hall, hti⟩ := hrel
            have HALL := Lib.hid hall
            have HTI := Lib.hid hti
            clear hall hti
            by_cases hjl : j < ls.length
            · obtain ⟨bs, offs, rfl, hcs⟩ := (HRA.out.still HTI.out).at_ j hjl
              have hz := HS3.out _ (List.getElem_mem hjl)
              by_cases b3 : ls[j].size ≤ 50
              · have HNX : Hid (∀ i (hi : i < ls.length), i < j + 1 → ls[i].size ≤ 50) := fun i hi hlt => by
                  by_cases e : i = j
                  · subst e; exact b3
                  · exact HALL.out i hi (by omega)
                clear HALL
                generalize ls[j] = u at hcs hz b3
                go_wp2
                go_roundw
                case rel => exact ⟨j + 1, by omega, by go_num, HNX.out, HTI.out⟩
                case measure => simp [intOf]; omega
              · have HE := Lib.hid (HB.out (HIA.out j hjl b3))
                generalize ls[j] = u at hcs hz b3
                go_wp2
                go_ret
                exact ⟨by rw [HE.out]; rfl, HTA.out.next HTI.out (fun _ _ f => f)⟩
            · obtain rfl : j = ls.length := by omega
              have HE := Lib.hid (HG.out (HIO.out b1 b2 (fun i hi => HALL.out i hi hi)))
              go_wp2
              go_roundw
              case rel => exact ⟨k + 1, by omega, by go_num, HE.out, HTA.out.next HTI.out (fun _ _ f => f)⟩
              case measure => simp [intOf]; omega
        · have HE := Lib.hid (HB.out (HIL.out b2))
          go_wp2
          go_ret
          exact ⟨by rw [HE.out]; rfl, (HT.out.alloc _)⟩
      · have HE := Lib.hid (HB.out (HIS.out b1))
        go_wp2
        go_ret
        exact ⟨by rw [HE.out]; rfl, (HT.out.alloc _)⟩
    · obtain rfl : k = n := by omega
      have HE := Lib.hid (fewB_end (its := its) (by rw [← HN.out]; exact HOK.out))
      by_cases h30 : k ≤ 30
      · have HD := Lib.hid (show decide (its.length ≤ 30) = true by rw [← HN.out]; simp [h30])
        have d30 : decide ((k : Int) ≤ 30) = true := by simp; omega
        go_wp2
        go_ret
        exact ⟨by rw [HE.out, HD.out]; rfl, HT.out⟩
      · have HD := Lib.hid (show decide (its.length ≤ 30) = false by rw [← HN.out]; simp [h30])
        have d30 : decide ((k : Int) ≤ 30) = false := by simp; omega
        go_wp2
        go_ret
        exact ⟨by rw [HE.out, HD.out]; rfl, HT.out⟩
theorem few_at (A : Option Addr) (N c : Nat) (its : List It) (w : World) (h : RdI w A its) (hN : N = its.length) (hm : N ≤ 9223372036854775807) :
    Calls Try.prog 9 #[.slice A N c] w (Told (fewB its) w) := by
  subst hN
  exact few_calls A c its w h hm
end Go.Proofs.Ytgipafdfmghogaa
