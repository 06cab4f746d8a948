/-
  The law CrcOpens tells true of any bytes, sealed or not, and turns nothing that was there.
  Conditions: none.
-/
import Derived.Test.YtglgdelkelgngaaLives2
import Derived.Test.YtglgdelkelgngaaRefSeal
import Derived.Lib.BufferRead
namespace Go.Proofs.Ytglgdelkelgngaa
open Go.RowKit

theorem nil_string (W : World) : (convert 22 9 (.slice none 0 0)).run Try.prog W = .ok (.string ⟨#[]⟩) W := by
  have h : Rd W (.slice none 0 0) [] := ⟨none, 0, rfl, fun h => absurd rfl h⟩
  exact h.string Try.underlying22 Try.underlying5 Try.underlying9

theorem to_bytes (l : List UInt8) (W : World) : ∃ g cap W2, (convert 9 22 (.string ⟨l.toArray⟩)).run Try.prog W = .ok (.slice (some ⟨g, 0, none⟩) l.length cap) W2 ∧ Rd W2 (.slice (some ⟨g, 0, none⟩) l.length cap) l ∧ Turns (fun _ => False) W W2 := by
  have h := run_bytes_of_string (P := Try.prog) W 9 22 5 ⟨l.toArray⟩ Try.underlying9 Try.underlying22 Try.underlying5
  have hs : (ByteArray.mk l.toArray).size = l.length := by simp [ByteArray.size]
  have hr := rd_bytes W.drew ⟨l.toArray⟩ 5 (grownCap W (ByteArray.mk l.toArray).size 0 5) ((bytesRow ⟨l.toArray⟩ (grownCap W (ByteArray.mk l.toArray).size 0 5)).size, (bytesRow ⟨l.toArray⟩ (grownCap W (ByteArray.mk l.toArray).size 0 5)).size + 1)
  have ht := (Turns.refl (fun _ => False) W).drew.alloc (.cells (bytesRow ⟨l.toArray⟩ (grownCap W (ByteArray.mk l.toArray).size 0 5)) 5 ((bytesRow ⟨l.toArray⟩ (grownCap W (ByteArray.mk l.toArray).size 0 5)).size, (bytesRow ⟨l.toArray⟩ (grownCap W (ByteArray.mk l.toArray).size 0 5)).size + 1))
  rw [← hs]
  exact ⟨_, _, _, h, hr, ht⟩

theorem opens_few (A : Option Addr) (c n : Nat) (sl : Bool) (w : World) (hm : n ≤ 9223372036854775807) (h : 300 < n) :
    Calls Try.prog 5 #[.slice A n c, .bool sl] w (Told2 true w) := by
  have hnot : ∀ (x : Bool) (w : World), (Op.unary .not (.bool x)).run Try.prog w = .ok (.bool (!x)) w := fun _ _ => rfl
  go_enter Try.func5, Try.ntmps5
  go_wp2_with fail
  with_reducible refine (lives2_calls w).mono ?_
  rintro e w1 ⟨rfl, ht1⟩
  have H1 := Lib.hid ht1
  clear ht1
  go_wp2_with fail
  with_reducible refine (lives2_calls w1).mono ?_
  rintro e w2 ⟨rfl, ht2⟩
  have H2 : Hid (Turns (fun _ => False) w w2) := H1.out.next ht2 (fun _ _ f => f)
  clear ht2
  go_wp2
  go_ret
  exact ⟨rfl, H2.out⟩

set_option maxRecDepth 100000 in
set_option maxHeartbeats 2000000 in
theorem opens_plain (A : Option Addr) (c : Nat) (l : List UInt8) (w : World) (hr : Rd w (.slice A l.length c) l) (hn : l.length ≤ 300) :
    Calls Try.prog 5 #[.slice A l.length c, .bool false] w (Told2 true w) := by
  have hnot : ∀ (x : Bool) (w : World), (Op.unary .not (.bool x)).run Try.prog w = .ok (.bool (!x)) w := fun _ _ => rfl
  have HR := Lib.hid hr
  clear hr
  go_enter Try.func5, Try.ntmps5
  go_wp2_with fail
  with_reducible refine (lives2_calls w).mono ?_
  rintro e W0 ⟨rfl, ht0⟩
  have HT0 := Lib.hid ht0
  have HRD := Lib.hid (HR.out.still ht0)
  have HAPB := Lib.hid (HRD.out.old (Nat.le_refl _))
  clear ht0 HR
  have htn : Turns (fun _ => False) W0 (W0.alloc (.cells zeroTab 38)) := (Turns.refl (fun _ => False) W0).alloc _
  have HTN := Lib.hid (Tbl.new W0)
  have HRN := Lib.hid (HRD.out.still htn)
  have HTT : Hid (Turns (fun _ => False) w (W0.alloc (.cells zeroTab 38))) := HT0.out.next htn (fun _ _ f => f)
  have hBw : w.heap.size ≤ W0.heap.size := HT0.out.size
  clear htn HRD HT0
  go_wp2_with fail
  with_reducible refine (new_calls W0).mono ?_
  rintro e w2 ⟨rfl, hw2⟩
  rw [← hw2] at HTN HRN HTT
  clear hw2
  generalize W0.heap.size = B at *
  by_cases h4 : l.length < 4
  · go_wp2_with fail
    with_reducible refine (open_short B _ l w2 HRN.out h4).mono ?_
    rintro e w3 ⟨v, rfl, hv⟩
    rw [if_pos h4] at hv
    rw [if_pos h4]
    obtain ⟨rfl, rfl⟩ := hv
    have hst := HRN.out.string (P := Try.prog) (src := 22) (dst := 9) Try.underlying22 Try.underlying5 Try.underlying9
    go_wp2_with fail
    with_reducible refine (refopen_short l w2 h4).mono ?_
    rintro e w3 ⟨rfl, ht3⟩
    have hokf : okB l = false := by unfold okB; rw [decide_eq_false (by omega)]; rfl
    rw [if_pos h4, hokf]
    simp only [Bool.false_eq_true, if_false]
    have HT3 := Lib.hid (HTN.out.turns ht3 (fun f => f))
    have HF : Hid (Turns (fun _ => False) w w3) := HTT.out.next ht3 (fun _ _ f => f)
    have hnil := nil_string w3
    clear ht3 hst hokf HTN HRN HTT
    go_wp2_with fail
    with_reducible refine (made_calls B false w3 HT3.out).mono ?_
    rintro e w4 ⟨rfl, rfl⟩
    go_wp2
    go_ret
    exact ⟨rfl, HF.out⟩
  · have h4' : 4 ≤ l.length := by omega
    go_wp2_with fail
    with_reducible refine (open_long B false _ l w2 HTN.out HRN.out (by omega) h4').mono ?_
    rintro e w3 ⟨v, rfl, hv⟩
    rw [if_neg h4] at hv
    rw [if_neg h4]
    obtain ⟨hv, hm⟩ := hv
    have HT3 := Lib.hid hm.tbl
    have HTT3 : Hid (Turns (fun _ => False) w w3) := HTT.out.next hm.2 (fun i hi h => by omega)
    have hst := (HRN.out.turns2 hm.2 (fun hne k hk e => HAPB.out hne k hk e)).string (P := Try.prog) (src := 22) (dst := 9) Try.underlying22 Try.underlying5 Try.underlying9
    clear hm HTN HRN HTT
    cases hok : okB l with
    | true =>
      rw [if_pos hok] at hv
      obtain ⟨bd, hbd⟩ : ∃ bd, bd = l.take (l.length - 4) := ⟨_, rfl⟩
      rw [← hbd] at hv
      have HBD := Lib.hid hbd
      have HV := Lib.hid hv
      obtain ⟨A2, c2, rfl⟩ := hv.shape
      clear hv hbd
      go_wp2_with fail
      with_reducible refine (refopen_long l w3 h4' (by omega)).mono ?_
      rintro e w4 ⟨rfl, ht4⟩
      rw [if_neg h4, hok, ← HBD.out]
      simp only [if_true]
      have hst2 := (HV.out.still ht4).string (P := Try.prog) (src := 22) (dst := 9) Try.underlying22 Try.underlying5 Try.underlying9
      have HT4 := Lib.hid (HT3.out.turns ht4 (fun f => f))
      have HF : Hid (Turns (fun _ => False) w w4) := HTT3.out.next ht4 (fun _ _ f => f)
      clear ht4 hst hok HT3 HTT3 HV
      generalize bd.length = n2 at *
      generalize ByteArray.mk bd.toArray = y at *
      go_wp2_with fail
      with_reducible refine (made_calls B true w4 HT4.out).mono ?_
      rintro e w5 ⟨rfl, rfl⟩
      go_wp2
      go_ret
      exact ⟨rfl, HF.out⟩
    | false =>
      rw [if_neg (by rw [hok]; simp)] at hv
      subst hv
      go_wp2_with fail
      with_reducible refine (refopen_long l w3 h4' (by omega)).mono ?_
      rintro e w4 ⟨rfl, ht4⟩
      rw [if_neg h4, hok]
      simp only [Bool.false_eq_true, if_false]
      have hnil := nil_string w4
      have HT4 := Lib.hid (HT3.out.turns ht4 (fun f => f))
      have HF : Hid (Turns (fun _ => False) w w4) := HTT3.out.next ht4 (fun _ _ f => f)
      clear ht4 hst hok HT3 HTT3
      go_wp2_with fail
      with_reducible refine (made_calls B true w4 HT4.out).mono ?_
      rintro e w5 ⟨rfl, rfl⟩
      go_wp2
      go_ret
      exact ⟨rfl, HF.out⟩

set_option maxRecDepth 100000 in
set_option maxHeartbeats 2000000 in
theorem opens_sealed (A : Option Addr) (c : Nat) (bl : List UInt8) (w : World) (hr : Rd w (.slice A bl.length c) bl) (hn : bl.length ≤ 300) :
    Calls Try.prog 5 #[.slice A bl.length c, .bool true] w (Told2 true w) := by
  have hnot : ∀ (x : Bool) (w : World), (Op.unary .not (.bool x)).run Try.prog w = .ok (.bool (!x)) w := fun _ _ => rfl
  have HR := Lib.hid hr
  clear hr
  go_enter Try.func5, Try.ntmps5
  go_wp2_with fail
  with_reducible refine (lives2_calls w).mono ?_
  rintro e W0 ⟨rfl, ht0⟩
  have hst0 := (HR.out.still ht0).string (P := Try.prog) (src := 22) (dst := 9) Try.underlying22 Try.underlying5 Try.underlying9
  have HT00 := Lib.hid ht0
  clear ht0 HR
  go_wp2_with fail
  with_reducible refine (refseal_calls bl W0 (by omega)).mono ?_
  rintro e W1 ⟨rfl, ht1⟩
  have HT01 : Hid (Turns (fun _ => False) w W1) := HT00.out.next ht1 (fun _ _ f => f)
  clear ht1 hst0 HT00
  have hll := sealB_length bl
  generalize sealB bl = l at *
  have hl304 : l.length ≤ 304 := by omega
  clear hll
  obtain ⟨g, cap, W2, hcv, hrd2, ht2⟩ := to_bytes l W1
  have HRD := Lib.hid hrd2
  have HT0 : Hid (Turns (fun _ => False) w W2) := HT01.out.next ht2 (fun _ _ f => f)
  have HAPB := Lib.hid (HRD.out.old (Nat.le_refl _))
  clear hrd2 ht2 HT01
  have htn : Turns (fun _ => False) W2 (W2.alloc (.cells zeroTab 38)) := (Turns.refl (fun _ => False) W2).alloc _
  have HTN := Lib.hid (Tbl.new W2)
  have HRN := Lib.hid (HRD.out.still htn)
  have HTT : Hid (Turns (fun _ => False) w (W2.alloc (.cells zeroTab 38))) := HT0.out.next htn (fun _ _ f => f)
  have hBw : w.heap.size ≤ W2.heap.size := HT0.out.size
  clear htn HRD HT0
  go_wp2_with fail
  with_reducible refine (new_calls W2).mono ?_
  rintro e w2 ⟨rfl, hw2⟩
  rw [← hw2] at HTN HRN HTT
  clear hw2
  generalize W2.heap.size = B at *
  by_cases h4 : l.length < 4
  · go_wp2_with fail
    with_reducible refine (open_short B _ l w2 HRN.out h4).mono ?_
    rintro e w3 ⟨v, rfl, hv⟩
    rw [if_pos h4] at hv
    rw [if_pos h4]
    obtain ⟨rfl, rfl⟩ := hv
    have hst := HRN.out.string (P := Try.prog) (src := 22) (dst := 9) Try.underlying22 Try.underlying5 Try.underlying9
    go_wp2_with fail
    with_reducible refine (refopen_short l w2 h4).mono ?_
    rintro e w3 ⟨rfl, ht3⟩
    have hokf : okB l = false := by unfold okB; rw [decide_eq_false (by omega)]; rfl
    rw [if_pos h4, hokf]
    simp only [Bool.false_eq_true, if_false]
    have HT3 := Lib.hid (HTN.out.turns ht3 (fun f => f))
    have HF : Hid (Turns (fun _ => False) w w3) := HTT.out.next ht3 (fun _ _ f => f)
    have hnil := nil_string w3
    clear ht3 hst hokf HTN HRN HTT
    go_wp2_with fail
    with_reducible refine (made_calls B false w3 HT3.out).mono ?_
    rintro e w4 ⟨rfl, rfl⟩
    go_wp2
    go_ret
    exact ⟨rfl, HF.out⟩
  · have h4' : 4 ≤ l.length := by omega
    go_wp2_with fail
    with_reducible refine (open_long B false _ l w2 HTN.out HRN.out (by omega) h4').mono ?_
    rintro e w3 ⟨v, rfl, hv⟩
    rw [if_neg h4] at hv
    rw [if_neg h4]
    obtain ⟨hv, hm⟩ := hv
    have HT3 := Lib.hid hm.tbl
    have HTT3 : Hid (Turns (fun _ => False) w w3) := HTT.out.next hm.2 (fun i hi h => by omega)
    have hst := (HRN.out.turns2 hm.2 (fun hne k hk e => HAPB.out hne k hk e)).string (P := Try.prog) (src := 22) (dst := 9) Try.underlying22 Try.underlying5 Try.underlying9
    clear hm HTN HRN HTT
    cases hok : okB l with
    | true =>
      rw [if_pos hok] at hv
      obtain ⟨bd, hbd⟩ : ∃ bd, bd = l.take (l.length - 4) := ⟨_, rfl⟩
      rw [← hbd] at hv
      have HBD := Lib.hid hbd
      have HV := Lib.hid hv
      obtain ⟨A2, c2, rfl⟩ := hv.shape
      clear hv hbd
      go_wp2_with fail
      with_reducible refine (refopen_long l w3 h4' (by omega)).mono ?_
      rintro e w4 ⟨rfl, ht4⟩
      rw [if_neg h4, hok, ← HBD.out]
      simp only [if_true]
      have hst2 := (HV.out.still ht4).string (P := Try.prog) (src := 22) (dst := 9) Try.underlying22 Try.underlying5 Try.underlying9
      have HT4 := Lib.hid (HT3.out.turns ht4 (fun f => f))
      have HF : Hid (Turns (fun _ => False) w w4) := HTT3.out.next ht4 (fun _ _ f => f)
      clear ht4 hst hok HT3 HTT3 HV
      generalize bd.length = n2 at *
      generalize ByteArray.mk bd.toArray = y at *
      go_wp2_with fail
      with_reducible refine (made_calls B true w4 HT4.out).mono ?_
      rintro e w5 ⟨rfl, rfl⟩
      go_wp2
      go_ret
      exact ⟨rfl, HF.out⟩
    | false =>
      rw [if_neg (by rw [hok]; simp)] at hv
      subst hv
      go_wp2_with fail
      with_reducible refine (refopen_long l w3 h4' (by omega)).mono ?_
      rintro e w4 ⟨rfl, ht4⟩
      rw [if_neg h4, hok]
      simp only [Bool.false_eq_true, if_false]
      have hnil := nil_string w4
      have HT4 := Lib.hid (HT3.out.turns ht4 (fun f => f))
      have HF : Hid (Turns (fun _ => False) w w4) := HTT3.out.next ht4 (fun _ _ f => f)
      clear ht4 hst hok HT3 HTT3
      go_wp2_with fail
      with_reducible refine (made_calls B true w4 HT4.out).mono ?_
      rintro e w5 ⟨rfl, rfl⟩
      go_wp2
      go_ret
      exact ⟨rfl, HF.out⟩

theorem opens_walk (A : Option Addr) (c : Nat) (bl : List UInt8) (sl : Bool) (w : World) (hr : Rd w (.slice A bl.length c) bl) (hm : bl.length ≤ 9223372036854775807) :
    Calls Try.prog 5 #[.slice A bl.length c, .bool sl] w (Told2 true w) := by
  by_cases h : 300 < bl.length
  · exact opens_few A c _ sl w hm h
  · cases sl
    · exact opens_plain A c bl w hr (by omega)
    · exact opens_sealed A c bl w hr (by omega)
end Go.Proofs.Ytglgdelkelgngaa
