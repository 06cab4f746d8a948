/-
  The chapter's example holds: the law's 'lives' tells true, and turns nothing that was there.
  Conditions: none.
-/
import Derived.Test.YtgipafdfmghogaaWriteC
import Derived.LaidEqlPtr
namespace Go.Proofs.Ytgipafdfmghogaa
open Go.RowKit

theorem infoWriter : (Try.prog.info? 32).map (fun i => (i.zero, i.size, i.bytes)) = some (some (.agg #[.slice none 0 0]), 1, 24) := by kernel_rfl
theorem eqWriter (a : Addr) (W : World) : (binOp .eql 29 (.pointer (some a)) (.pointer (some a))).run Try.prog W = .ok (.bool true) W := by
  obtain ⟨i0, hi, _⟩ := info_parts infoWriter
  exact run_eql_ptr_same W a Try.underlying29 hi

/-- A new Writer. -/
theorem wtr_new (w : World) : Wtr (w.alloc (.cells #[.slice none 0 0] 32)) w.heap.size (.slice none 0 0) [] :=
  ⟨heap_alloc_new w _, World.ownsRow_nil _ _ _ _⟩

/-- It tells true, and nothing that was there has turned. -/
def Told (b : Bool) (w : World) (e : Ending) (w' : World) : Prop := e = .returned (.bool b) ∧ Turns (fun _ => False) w w'

theorem lives_calls (w : World) : Calls Try.prog 8 #[] w (Told true w) := by
  have hp := eqWriter ⟨w.heap.size, 0, none⟩
  have HN := Lib.hid (wtr_new w)
  have hrm : ([] : List UInt8).length + 8 ≤ 1099511627776 := by simp
  have HRM := Lib.hid hrm
  clear hrm
  go_enter Try.func8, Try.ntmps8
  go_wp2_with fail
  with_reducible refine (four_at w.heap.size _ [] _ 258 _ HN.out (by simp) (by omega) HRM.out).mono ?_
  rintro e w1 ⟨rfl, v1, hv1, ho1, ht1⟩
  have HV := Lib.hid hv1
  have HO := Lib.hid ho1
  have HT := Lib.hid ht1
  clear hv1 ho1 ht1
  go_wp2_with fail
  have hrm2 : ([] ++ le 258 4).length + 65545 ≤ 1099511627776 := by simp [le]
  have HRM2 := Lib.hid hrm2
  clear hrm2
  with_reducible refine (text_calls w.heap.size v1 _ _ w1 HV.out (by decide) HRM2.out).mono ?_
  rintro e w2 ⟨rfl, hw2⟩
  obtain ⟨v2, hv2, ho2, ht2⟩ := Went.next HO.out HT.out hw2
  rw [show [] ++ le 258 4 ++ (le (ByteArray.mk #[97]).size 2 ++ (ByteArray.mk #[97]).data.toList) = [2, 1, 0, 0, 1, 0, 97] from by decide] at hv2
  have HV2 := Lib.hid hv2
  have HT2 := Lib.hid ht2
  clear hv2 ho2 ht2 hw2
  go_wp2_with fail
  with_reducible refine (bytes_calls w.heap.size v2 _ w2 HV2.out (by decide)).mono ?_
  rintro e w3 ⟨v3, rfl, ho3, hb3, ht3⟩
  have hst := (Rd.of_own ho3).string (P := Try.prog) (src := 30) (dst := 9) Try.underlying30 Try.underlying5 Try.underlying9
  have hfin : Turns (fun _ => False) w w3 := (((Turns.refl _ w).alloc _).next HT2.out (fun i hi hs => by
    rcases hs with rfl | hs
    · omega
    · simp [Value.ownBlock] at hs)).next ht3 (fun _ _ f => f)
  obtain ⟨A, c, rfl⟩ := owns_shape ho3
  have HF := Lib.hid hfin
  clear hfin ho3 hb3 ht3
  have hst7 : (convert 30 9 (.slice A 7 c)).run Try.prog w3 = .ok (.string ⟨#[2, 1, 0, 0, 1, 0, 97]⟩) w3 := hst
  clear hst
  go_wp2
  go_ret
  exact ⟨rfl, HF.out⟩
end Go.Proofs.Ytgipafdfmghogaa
