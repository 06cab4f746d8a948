/-
  The document's Check of an operation tells what the code's tells.
  Conditions: texts of at most 65535 bytes.
-/
import Derived.Test.YtadecmjojnhlnaaOpRefT
namespace Go.Proofs.Ytadecmjojnhlnaa
open Go.RowKit

theorem frm_ab14 {o : O14} (hs : sig14 o.kd.toNat = [97, 98]) (hk : know14 o.kd.toNat = true) : frm_14 o = decide (o.nd = 0 ∧ o.rl = 0) := by
  obtain ⟨kd, a, b, nd, rl⟩ := o
  unfold frm_14 own14
  rw [hs, hk]
  simp [snd14, put14, zero14, same14]
theorem frm_a14 {o : O14} (hs : sig14 o.kd.toNat = [97]) (hk : know14 o.kd.toNat = true) : frm_14 o = decide (o.b = ⟨#[]⟩ ∧ o.nd = 0 ∧ o.rl = 0) := by
  obtain ⟨kd, a, b, nd, rl⟩ := o
  unfold frm_14 own14
  rw [hs, hk]
  simp [snd14, put14, zero14, same14]
theorem frm_014 {o : O14} (hs : sig14 o.kd.toNat = []) (hk : know14 o.kd.toNat = true) : frm_14 o = decide (o.a = ⟨#[]⟩ ∧ o.b = ⟨#[]⟩ ∧ o.nd = 0 ∧ o.rl = 0) := by
  obtain ⟨kd, a, b, nd, rl⟩ := o
  unfold frm_14 own14
  rw [hs, hk]
  simp [zero14, same14]
theorem frm_nr14 {o : O14} (hs : sig14 o.kd.toNat = [110, 114]) (hk : know14 o.kd.toNat = true) : frm_14 o = decide (o.a = ⟨#[]⟩ ∧ o.b = ⟨#[]⟩ ∧ o.nd.toNat < 7 ∧ 1 ≤ o.rl.toNat ∧ o.rl.toNat ≤ 3) := by
  obtain ⟨kd, a, b, nd, rl⟩ := o
  unfold frm_14 own14
  rw [hs, hk]
  by_cases h1 : a = ⟨#[]⟩ <;> by_cases h2 : b = ⟨#[]⟩ <;> by_cases h3 : nd.toNat < 7 <;> simp [snd14, put14, zero14, same14, h1, h2, h3]
theorem frm_no14 {o : O14} (hk : know14 o.kd.toNat = false) : frm_14 o = false := by
  unfold frm_14
  rw [hk]
  simp
theorem len_ab14 {o : O14} (hs : sig14 o.kd.toNat = [97, 98]) : (opB14 o).length = 5 + o.a.size + o.b.size := by
  unfold opB14
  rw [hs]
  simp only [List.flatMap_cons, List.flatMap_nil, List.length_append, le_length, part14, if_true, List.length_nil]
  rw [if_neg (by decide), textB_length, textB_length]
  omega
theorem len_a14 {o : O14} (hs : sig14 o.kd.toNat = [97]) : (opB14 o).length = 3 + o.a.size := by
  unfold opB14
  rw [hs]
  simp only [List.flatMap_cons, List.flatMap_nil, List.length_append, le_length, part14, if_true, List.length_nil, textB_length]
  omega
theorem len_014 {o : O14} (hs : sig14 o.kd.toNat = []) : (opB14 o).length = 1 := by
  unfold opB14
  rw [hs]
  simp [le_length]
theorem len_nr14 {o : O14} (hs : sig14 o.kd.toNat = [110, 114]) : (opB14 o).length = 3 := by
  unfold opB14
  rw [hs]
  simp [le_length, part14]

theorem nonempty14 {s : ByteArray} (h : s ≠ ⟨#[]⟩) : s.toList.isEmpty = false ∧ ¬ s.toList = [] := by
  have : s.toList ≠ [] := fun e => h (by
    rw [ByteArray.toList_eq] at e
    exact ByteArray.ext (Array.toList_inj.1 (by rw [e])))
  exact ⟨by cases h : s.toList with | nil => exact absurd h this | cons _ _ => rfl, this⟩

end Go.Proofs.Ytadecmjojnhlnaa
