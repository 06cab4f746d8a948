/-
  Fold of package name: each great letter becomes a small one, all other bytes stay.
  Conditions: the text is no longer than a text may be.
-/
import Derived.Test.YtclnkboejbnfnaaGreatDoorNames
import Derived.Test.YtclnkboejbnfnaaGreatDoorWords
namespace Go.Proofs.YtclnkboejbnfnaaGreatDoor
open Go.RowKit

/-- A byte, folded. -/
def foldC (x : UInt8) : UInt8 := if inR 65 90 x then x + 32 else x
/-- Bytes, folded. -/
def fold5 (l : List UInt8) : List UInt8 := l.map foldC

theorem foldC_hit {x : UInt8} (h : inR 65 90 x = true) : ((foldC x).toNat : Int) = (x.toNat : Int) - 65 + 97 ∧ 65 ≤ x.toNat ∧ x.toNat ≤ 90 := by
  have h2 : 65 ≤ x.toNat ∧ x.toNat ≤ 90 := by simpa [inR] using h
  refine ⟨?_, h2.1, h2.2⟩
  unfold foldC
  rw [if_pos h, UInt8.toNat_add]
  have : (32 : UInt8).toNat = 32 := rfl
  rw [this]
  omega
theorem foldC_miss {x : UInt8} (h : inR 65 90 x = false) : foldC x = x := by unfold foldC; rw [h]; simp

/-- The row of n bytes at block B reads as f says, and may be written. -/
def Row5 (w : World) (B n : Nat) (f : Nat → UInt8) : Prop :=
  B < w.heap.size ∧ ∀ j, j < n → w.cell? ⟨B, j, none⟩ = some (.int .u8 (f j).toNat) ∧ w.frozen? ⟨B, j, none⟩ = false
theorem Row5.drewN {w : World} {B n : Nat} {f : Nat → UInt8} (h : Row5 w B n f) (q : Nat) : Row5 (w.drewN q) B n f := h
theorem Row5.set {w : World} {B n : Nat} {f : Nat → UInt8} (h : Row5 w B n f) (k : Nat) (hk : k < n) (x : Int) (y : UInt8) (hx : (y.toNat : Int) = x) :
    Row5 (w.setCell ⟨B, k, none⟩ (.int .u8 x)) B n (fun j => if j = k then y else f j) := by
  refine ⟨by have := h.1; simpa [World.setCell] using this, fun j hj => ⟨?_, ?_⟩⟩
  · by_cases e : j = k
    · subst e
      simp only [if_true, hx]
      exact World.cell?_setCell_same _ _ _ (h.2 j hj).1
    · rw [World.cell?_setCell_other _ _ _ _ (fun he => e (by injection he with _ h2 _; exact h2.symm))]
      simp only [if_neg e]
      exact (h.2 j hj).1
  · have := (h.2 j hj).2
    simpa [World.frozen?_setCell] using this

theorem Row5.like {w : World} {B n : Nat} {f g : Nat → UInt8} (h : Row5 w B n f) (e : ∀ j, f j = g j) : Row5 w B n g := (funext e : f = g) ▸ h

theorem row_new (w : World) (s : ByteArray) (cap : Nat) (t : TypeId) :
    Row5 (w.alloc (.cells (bytesRow s cap) t ((bytesRow s cap).size, (bytesRow s cap).size + 1))) w.heap.size s.size (fun j => s.data.toList.getD j 0) := by
  refine ⟨by simp, fun j hj => ⟨?_, ?_⟩⟩
  · rw [World.cell?_alloc_mark]
    have hj' : j < s.data.size := hj
    simp only [bytesRow, Array.getElem?_append, Array.size_map]
    rw [if_pos hj', Array.getElem?_map, Array.getElem?_eq_getElem hj']
    simp only [List.getD, Array.getElem?_toList, Array.getElem?_eq_getElem hj', Option.getD_some, Option.map_some]
  · rw [World.frozen?_alloc_mark]
    have : s.size ≤ (bytesRow s cap).size := by
      have : (bytesRow s cap).size = s.data.size + (cap - s.size) := by simp [bytesRow]
      have e : s.data.size = s.size := rfl
      omega
    simp only [Bool.and_eq_false_iff, decide_eq_false_iff_not]
    left; omega

theorem row_string {w : World} {B n cap : Nat} {f : Nat → UInt8} (h : Row5 w B n f) :
    (convert 39 9 (.slice (some ⟨B, 0, none⟩) n cap)).run Tryz.prog w = .ok (.string ⟨((List.range n).map f).toArray⟩) w := by
  have hr : Rd w (.slice (some ⟨B, 0, none⟩) n cap) ((List.range n).map f) := by
    refine ⟨some ⟨B, 0, none⟩, cap, by simp, fun _ => ⟨_, rfl, h.1, fun j u hu => ?_⟩⟩
    have hadd : (⟨B, 0, none⟩ : Addr).add j = ⟨B, j, none⟩ := by unfold Addr.add; split <;> simp_all
    have hj : j < n := by
      have := (List.getElem?_eq_some_iff.1 hu).1
      simpa [cellsOf_length] using this
    rw [hadd, (h.2 j hj).1]
    simp [cellsOf, hj] at hu
    rw [← hu]
  exact hr.string Tryz.underlying39 Tryz.underlying5 Tryz.underlying9

set_option maxRecDepth 100000 in
theorem fold_calls (s : ByteArray) (w : World) (hs : s.size ≤ 9223372036854775807) :
    Calls Tryz.prog 265 #[.string s] w fun e w' => e = .returned (.string ⟨(fold5 s.data.toList).toArray⟩) ∧ Below w.heap.size w w' := by
  obtain ⟨r, hr⟩ : ∃ r, r = (⟨(fold5 s.data.toList).toArray⟩ : ByteArray) := ⟨_, rfl⟩
  rw [← hr]
  have HR := Lib.hid hr
  clear hr
  have HC := Lib.hid (within_int 65 90 65 90 rfl rfl w)
  have HS := Lib.hid hs
  generalize hn : s.size = n at *
  have HN := Lib.hid hn
  go_enter Tryz.func265, Tryz.ntmps265
  go_wp2_with fail
  with_reducible refine HC.out.mono ?_
  rintro e w1 ⟨g, lb, rfl, ha, hb⟩
  have HB1 := Lib.hid hb
  have HA := Lib.hid ha
  clear ha hb HC
  have hcv := run_bytes_of_string (P := Tryz.prog) w1 9 39 5 s Tryz.underlying9 Tryz.underlying39 Tryz.underlying5
  rw [hn] at hcv
  have hro := row_new w1.drew s (grownCap w1 n 0 5) 5
  rw [hn] at hro
  generalize grownCap w1 n 0 5 = cap at hcv hro
  have hb2 := below_alloc (below_drew (Below.refl w1.heap.size w1)) (.cells (bytesRow s cap) 5 ((bytesRow s cap).size, (bytesRow s cap).size + 1))
  have HZ := Lib.hid (show w1.heap.size < (w1.drew.alloc (.cells (bytesRow s cap) 5 ((bytesRow s cap).size, (bytesRow s cap).size + 1))).heap.size by simp)
  generalize w1.drew.alloc (.cells (bytesRow s cap) 5 ((bytesRow s cap).size, (bytesRow s cap).size + 1)) = w2 at *
  have HRO := Lib.hid hro
  have HB2 := Lib.hid hb2
  clear hro hb2 hn
  generalize hB : w1.heap.size = B at *
  have HBe := Lib.hid hB
  clear hB
  generalize hf0 : (fun j => s.data.toList.getD j 0) = f0 at *
  have HF0 := Lib.hid hf0
  clear hf0
  have HRO' : Hid (Row5 w2 B n f0) := HBe.out ▸ HRO.out
  have HB2' : Hid (Below w1.heap.size w1 w2) := HBe.out ▸ HB2.out
  clear HRO HB2
  go_wp2
  go_loopg [5, 6, 12] n (fun gg _ _ s12 wr => ∃ k : Nat, k ≤ n ∧ n - k ≤ gg ∧ s12 = .int .i64 k ∧ Hid (Row5 wr B n (fun j => if j < k then foldC (f0 j) else f0 j)) ∧ Hid (Below w1.heap.size w1 wr))
  case atStart => exact ⟨0, Nat.zero_le _, by omega, rfl, by simpa using HRO', HB2'⟩
  case round =>
    obtain ⟨k, hk, hg, rfl, HR1, HW⟩ := hrel
    by_cases hlt : k < n
    · have hltz : (k : Int) < (n : Int) := by omega
      have hcell := (HR1.out.2 k hlt).1
      have hfz := (HR1.out.2 k hlt).2
      simp only [Nat.lt_irrefl, if_false] at hcell
      cases hq : inR 65 90 (f0 k) with
      | true =>
        obtain ⟨e1, e2, e3⟩ := foldC_hit hq
        obtain ⟨eg, hc⟩ := (HA.out.later HW.out).at_ (f0 k) _ rfl _ hq
        have HC0 := Lib.hid hc
        have HY : Hid (∀ q, Row5 ((wr.drewN q).setCell ⟨B, k, none⟩ (.int .u8 ((f0 k).toNat - 65 + 97))) B n (fun j => if j < k + 1 then foldC (f0 j) else f0 j)) := fun q => by
          have := (HR1.out.drewN q).set k hlt _ (foldC (f0 k)) e1
          refine this.like fun j => ?_
          by_cases h1 : j = k
          · subst h1; simp
          · by_cases h2 : j < k
            · simp [h1, h2, Nat.lt_succ_of_lt h2]
            · have : ¬ j < k + 1 := by omega
              simp [h1, h2, this]
        have HWB : Hid (∀ q v, Below w1.heap.size w1 ((wr.drewN q).setCell ⟨B, k, none⟩ v)) := fun q v => (below_drewN HW.out q).setCell (p := ⟨B, k, none⟩) (by rw [HBe.out]; exact Nat.le_refl _) v
        clear hc hq e1
        generalize ((f0 k).toNat : Nat) = x at *
        have z1 : IntKind.u8.wrap ((x : Int) - 65) = (x : Int) - 65 := by unfold IntKind.wrap; simp [IntKind.bits, IntKind.signed]; omega
        have z2 : IntKind.u8.wrap ((x : Int) - 65 + 97) = (x : Int) - 65 + 97 := by unfold IntKind.wrap; simp [IntKind.bits, IntKind.signed]; omega
        go_wp2_with (go_at_fn g; refine HC0.out.mono ?_; rintro e w4 ⟨rfl, q, rfl⟩)
        go_roundg (n - (k + 1))
        case measure => omega
        case rel => exact ⟨k + 1, by omega, by omega, by go_num, HY.out q, HWB.out q _⟩
      | false =>
        obtain ⟨eg, hc⟩ := (HA.out.later HW.out).at_ (f0 k) _ rfl _ hq
        have HC0 := Lib.hid hc
        have HY : Hid (Row5 wr B n (fun j => if j < k + 1 then foldC (f0 j) else f0 j)) := by
          refine HR1.out.like fun j => ?_
          by_cases h1 : j = k
          · subst h1; simp [foldC_miss hq]
          · by_cases h2 : j < k
            · simp [h2, Nat.lt_succ_of_lt h2]
            · have : ¬ j < k + 1 := by omega
              simp [h2, this]
        clear hc hq
        generalize ((f0 k).toNat : Nat) = x at *
        go_wp2_with (go_at_fn g; refine HC0.out.mono ?_; rintro e w4 ⟨rfl, q, rfl⟩)
        go_roundg (n - (k + 1))
        case measure => omega
        case rel => exact ⟨k + 1, by omega, by omega, by go_num, HY, below_drewN HW.out q⟩
    · have hltz : ¬ (k : Int) < (n : Int) := by omega
      obtain rfl : k = n := by omega
      have hst := row_string (cap := cap) HR1.out
      have he : (⟨((List.range k).map fun j => if j < k then foldC (f0 j) else f0 j).toArray⟩ : ByteArray) = r := by
        rw [HR.out]
        congr 2
        unfold fold5
        have hl : s.data.toList.length = k := by rw [size_list]; exact HN.out
        apply List.ext_getElem (by simp [hl])
        intro j h1 h2
        have hj : j < k := by simpa using h1
        have hjs : j < s.data.size := by have := HN.out; rw [← this] at hj; exact hj
        simp only [List.getElem_map, List.getElem_range, if_pos hj, ← HF0.out]
        simp only [List.getD, Array.getElem?_toList, Array.getElem?_eq_getElem hjs, Option.getD_some, Array.getElem_toList]
      rw [he] at hst
      clear he
      have HW' := Lib.hid (below_next HB1.out HW.out)
      clear HW
      go_wp2
      go_ret
      exact ⟨rfl, HW'.out⟩
end Go.Proofs.YtclnkboejbnfnaaGreatDoor
