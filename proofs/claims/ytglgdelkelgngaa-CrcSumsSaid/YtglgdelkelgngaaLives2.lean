/-
  The chapter's example holds: the law's 'lives' tells true, and turns nothing that was there.
  Conditions: none.
-/
import Derived.Test.YtglgdelkelgngaaOpens
import Derived.LaidEqlPtr
import Derived.Lib.SlBytesConst
namespace Go.Proofs.Ytglgdelkelgngaa
open Go.RowKit

/-- It tells a truth, and nothing that was there has turned. -/
def Told2 (b : Bool) (w : World) (e : Ending) (w' : World) : Prop := e = .returned (.bool b) ∧ Turns (fun _ => False) w w'
theorem example_sum : crc [49, 50, 51, 52, 53, 54, 55, 56, 57] = 3421780262#32 := by kernel_rfl
theorem rd_nine (w : World) : Rd (w.alloc (.cells #[.int .u8 49, .int .u8 50, .int .u8 51, .int .u8 52, .int .u8 53, .int .u8 54, .int .u8 55, .int .u8 56, .int .u8 57] 5 (9, 10))) (.slice (some ⟨w.heap.size, 0, none⟩) 9 9) [49, 50, 51, 52, 53, 54, 55, 56, 57] := by
  refine ⟨_, 9, rfl, fun _ => ⟨_, rfl, by simp, fun j u hu => ?_⟩⟩
  rw [Addr.add_lit, Nat.zero_add]
  rw [cell_of_row _ w.heap.size j _ _ (9, 10) (heap_alloc_new w _)]
  rw [← hu]
  have : (cellsOf [49, 50, 51, 52, 53, 54, 55, 56, 57]) = [.int .u8 49, .int .u8 50, .int .u8 51, .int .u8 52, .int .u8 53, .int .u8 54, .int .u8 55, .int .u8 56, .int .u8 57] := by rfl
  rw [this, List.getElem?_toArray]

theorem lives2_calls (w : World) : Calls Try.prog 7 #[] w (Told2 true w) := by
  have HN := Lib.hid (Tbl.new w)
  have hTA : Turns (fun _ => False) w (w.alloc (.cells zeroTab 38)) := (Turns.refl (fun _ => False) w).alloc _
  have HTA := Lib.hid hTA
  have hnot : ∀ (x : Bool) (w : World), (Op.unary .not (.bool x)).run Try.prog w = .ok (.bool (!x)) w := fun _ _ => rfl
  clear hTA
  go_enter Try.func7, Try.ntmps7
  go_wp2_with fail
  with_reducible refine (new_calls w).mono ?_
  rintro e w1 ⟨rfl, hw1⟩
  rw [← hw1] at HN HTA
  clear hw1
  go_wp2_with fail
  with_reducible refine (made_calls w.heap.size false w1 HN.out).mono ?_
  rintro e w2 ⟨rfl, rfl⟩
  have hTB : Turns (fun _ => False) w (w1.alloc (.cells #[.int .u8 49, .int .u8 50, .int .u8 51, .int .u8 52, .int .u8 53, .int .u8 54, .int .u8 55, .int .u8 56, .int .u8 57] 5 (9, 10))) := HTA.out.alloc _
  have hT1 : Tbl (w1.alloc (.cells #[.int .u8 49, .int .u8 50, .int .u8 51, .int .u8 52, .int .u8 53, .int .u8 54, .int .u8 55, .int .u8 56, .int .u8 57] 5 (9, 10))) w.heap.size false := HN.out.turns ((Turns.refl (fun _ => False) _).alloc _) (fun f => f)
  have hR1 := rd_nine w1
  have hne : Apart w.heap.size (Value.slice (some ⟨w1.heap.size, 0, none⟩) 9 9) [49, 50, 51, 52, 53, 54, 55, 56, 57] := by
    intro _ k hk
    have : w1.heap.size = k := by simpa [Value.ownBlock] using hk
    have := HN.out.lt
    omega
  have H1 := Lib.hid hTB
  have H2 := Lib.hid hT1
  have H3 := Lib.hid hR1
  have H4 := Lib.hid hne
  have hcv := Lib.run_convert_bytes_const (P := Try.prog) w1 22 5 #[.int .u8 49, .int .u8 50, .int .u8 51, .int .u8 52, .int .u8 53, .int .u8 54, .int .u8 55, .int .u8 56, .int .u8 57] 9 9 Try.underlying22 Try.underlying5
  simp only [List.size_toArray, List.length_cons, List.length_nil, Nat.reduceAdd] at hcv
  clear hTB hT1 hR1 hne HTA HN
  go_wp2_with fail
  with_reducible refine (sum_calls w.heap.size false _ [49, 50, 51, 52, 53, 54, 55, 56, 57] _ H2.out H3.out H4.out (by simp)).mono ?_
  rw [example_sum]
  rintro e w3 ⟨rfl, hm⟩
  have HT3 := Lib.hid hm.tbl
  have HF : Hid (Turns (fun _ => False) w w3) := H1.out.next hm.2 (fun i hi hs => by omega)
  clear hm H1 H2 H3 H4
  unfold regV
  go_wp2_with fail
  with_reducible refine (made_calls w.heap.size true w3 HT3.out).mono ?_
  rintro e w4 ⟨rfl, rfl⟩
  go_wp2
  go_ret
  exact ⟨rfl, HF.out⟩
end Go.Proofs.Ytglgdelkelgngaa
