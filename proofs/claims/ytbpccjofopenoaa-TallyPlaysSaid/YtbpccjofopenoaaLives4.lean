/-
  The chapter's example holds: the law's 'lives' tells true, and turns nothing that was there.
  Conditions: none.
-/
import Derived.Test.YtbpccjofopenoaaTallyB
namespace Go.Proofs.Ytbpccjofopenoaa
open Go.RowKit

/-- A tally of this call's own behind what it was made of. -/
theorem Turns.own4 {a w w' : World} {B : Nat} (h : Turns (fun _ => False) a w) (hB : a.heap.size ≤ B) (ht : Turns (fun i => i = B) w w') : Turns (fun _ => False) a w' :=
  h.next ht (fun i hi he => by omega)

set_option maxRecDepth 100000 in
theorem lives4_calls (w : World) : Calls Try.prog 6 #[] w (Told2 true w) := by
  have hnot : ∀ (x : Bool) (w : World), (Op.unary .not (.bool x)).run Try.prog w = .ok (.bool (!x)) w := fun _ _ => rfl
  have HN := Lib.hid (Num16.new w (fun _ => 0) 31)
  have hTA : Turns (fun _ => False) w (w.alloc (.cells (numA fun _ => 0) 31)) := (Turns.refl (fun _ => False) w).alloc _
  have HTA := Lib.hid hTA
  clear hTA
  go_enter Try.func6, Try.ntmps6
  go_wp2_with fail
  with_reducible refine (new4_calls w).mono ?_
  rintro e w1 ⟨rfl, hw1⟩
  rw [← hw1] at HN HTA
  clear hw1
  generalize hBB : w.heap.size = B at *
  have HB : Hid (w.heap.size ≤ B) := Nat.le_of_eq hBB
  clear hBB
  go_wp2_with fail
  with_reducible refine (add4_calls B 2 5 _ w1 HN.out).mono ?_
  rintro e w2 ⟨rfl, hn, ht⟩
  have e1 : addN (fun _ => 0) 2 5 = 5 := by decide +kernel
  rw [e1]
  have HT2 : Hid (Turns (fun _ => False) w w2) := HTA.out.own4 HB.out ht
  have HN2 := Lib.hid hn
  clear e1 hn ht HTA HN
  go_wp2_with fail
  with_reducible refine (raise4_calls B 2 4 _ w2 HN2.out).mono ?_
  rintro e w3 ⟨rfl, hn, ht⟩
  have e1 : (inK 2 && decide (getF (addF (fun _ => 0) 2 5) 2 < 4)) = false := by decide +kernel
  rw [e1]
  have HT3 : Hid (Turns (fun _ => False) w w3) := HT2.out.own4 HB.out ht
  have HN3 := Lib.hid hn
  clear e1 hn ht HT2 HN2
  go_wp2_with fail
  with_reducible refine (raise4_calls B 2 9 _ w3 HN3.out).mono ?_
  rintro e w4 ⟨rfl, hn, ht⟩
  have e1 : (inK 2 && decide (getF (toF (addF (fun _ => 0) 2 5) 2 4 (decide (getF (addF (fun _ => 0) 2 5) 2 < 4))) 2 < 9)) = true := by decide +kernel
  rw [e1]
  have HT4 : Hid (Turns (fun _ => False) w w4) := HT3.out.own4 HB.out ht
  have HN4 := Lib.hid hn
  clear e1 hn ht HT3 HN3
  go_wp2_with fail
  with_reducible refine (get4_calls B 2 _ w4 HN4.out).mono ?_
  rintro e w5 ⟨rfl, rfl⟩
  have e1 : getF (toF (toF (addF (fun _ => 0) 2 5) 2 4 (decide (getF (addF (fun _ => 0) 2 5) 2 < 4))) 2 9 (decide (getF (toF (addF (fun _ => 0) 2 5) 2 4 (decide (getF (addF (fun _ => 0) 2 5) 2 < 4))) 2 < 9))) 2 = 9 := by decide +kernel
  rw [e1]
  clear e1 HN4
  go_wp2
  go_ret
  exact ⟨rfl, HT4.out⟩
end Go.Proofs.Ytbpccjofopenoaa
