/-
  The document's own Seal and Open tell what the table's tell; nothing that was there turns.
  Conditions: at most 2^39 bytes.
-/
import Derived.Test.YtnfiaibfhfpmjaaRefSum
import Derived.Test.YtnfiaibfhfpmjaaRef
import Derived.Test.YtnfiaibfhfpmjaaOpens
namespace Go.Proofs.Ytnfiaibfhfpmjaa
open Go.RowKit

theorem le_val : ∀ m : List UInt8, le (val m) m.length = m
  | [] => rfl
  | b :: l => by
    have hb : b.toNat < 256 := b.toNat_lt
    rw [val, List.length_cons, le_cons, show (b.toNat + 256 * val l) / 256 = val l by omega, le_val l]
    congr 1
    apply UInt8.toNat_inj.1
    simp only [UInt8.toNat_ofNat']
    omega
theorem okB_iff (l : List UInt8) (h : 4 ≤ l.length) : okB l = decide (sealB (l.take (l.length - 4)) = l) := by
  rw [Bool.eq_iff_iff]
  simp only [okB, Bool.and_eq_true, decide_eq_true_eq]
  constructor
  · rintro ⟨_, h2⟩
    unfold sealB
    have h3 : (l.drop (l.length - 4)).length = 4 := by rw [List.length_drop]; omega
    have h4 := le_val (l.drop (l.length - 4))
    rw [h3, h2] at h4
    rw [h4, List.take_append_drop]
  · intro h2
    refine ⟨h, ?_⟩
    have h3 := okB_seal (l.take (l.length - 4))
    rw [h2] at h3
    simp only [okB, Bool.and_eq_true, decide_eq_true_eq] at h3
    exact h3.2

theorem refsum_at (l : List UInt8) (w : World) (hl : l.length ≤ 1099511627776) : Calls Try.prog 34 #[.string ⟨l.toArray⟩] w fun e w' => e = .returned (regV (crc l)) ∧ Turns (fun _ => False) w w' := by
  have := refsum_calls ⟨l.toArray⟩ w (by simpa [ByteArray.size] using hl)
  simpa using this
theorem refseal_calls (l : List UInt8) (w : World) (hl : l.length ≤ 549755813888) : Calls Try.prog 20 #[.string ⟨l.toArray⟩] w (Says (sealB l) w) := by
  have HS : Hid (sealB l = l ++ le (crc l).toNat 4) := rfl
  have hxl : (crc l).toNat < 4294967296 := (crc l).isLt
  have HM := Lib.hid (fun W => refsum_at l W (by omega))
  generalize crc l = x at *
  have HXL := Lib.hid hxl
  clear hxl
  have hxb : (x.toNat : Int) < 4294967296 := by have := HXL.out; omega
  have hadd := fun W => add_str (P := Try.prog) W l (le x.toNat 4) (by rw [le_length]; omega)
  rw [← HS.out] at hadd
  go_enter Try.func20, Try.ntmps20
  go_wp2_with fail
  with_reducible refine (HM.out w).mono ?_
  rintro e w1 ⟨rfl, ht1⟩
  have HT1 := Lib.hid ht1
  clear ht1
  unfold regV
  go_wp2_with fail
  with_reducible refine (num_at _ _ x.toNat 4 w1 (by rfl) (by simp) (by have := HXL.out; omega) (by omega)).mono ?_
  rintro e w2 ⟨rfl, ht2⟩
  have HT2 : Hid (Turns (fun _ => False) w w2) := HT1.out.next ht2 (fun _ _ f => f)
  clear ht2
  go_wp2
  go_ret
  exact ⟨rfl, HT2.out⟩

/-- What the document's Open tells. -/
def RefOpens (l : List UInt8) (w : World) (e : Ending) (w' : World) : Prop :=
  e = .returned (.tuple #[.string ⟨(if okB l then l.take (l.length - 4) else []).toArray⟩, .int .i64 (if l.length < 4 then 2 else if okB l then 0 else 5)]) ∧ Turns (fun _ => False) w w'
theorem refopen_short (l : List UInt8) (w : World) (hl : l.length < 4) : Calls Try.prog 28 #[.string ⟨l.toArray⟩] w (RefOpens l w) := by
  have HF : Hid (RefOpens l w (.returned (.tuple #[.string ⟨#[]⟩, .int .i64 2])) w) := by
    have : okB l = false := by unfold okB; rw [decide_eq_false (by omega)]; rfl
    refine ⟨?_, Turns.refl _ _⟩
    rw [this, if_pos hl]
    rfl
  have hsz : (ByteArray.mk l.toArray).size = l.length := by simp [ByteArray.size]
  obtain ⟨s, hs⟩ : ∃ s, s = ByteArray.mk l.toArray := ⟨_, rfl⟩
  rw [← hs] at hsz ⊢
  have hss : s.size < 4 := by omega
  clear hs hsz
  go_enter Try.func28, Try.ntmps28
  go_wp2
  go_ret2
  exact HF.out
theorem refopen_long (l : List UInt8) (w : World) (h4 : 4 ≤ l.length) (hl : l.length ≤ 549755813888) : Calls Try.prog 28 #[.string ⟨l.toArray⟩] w (RefOpens l w) := by
  have hsz : (ByteArray.mk l.toArray).size = l.length := by simp [ByteArray.size]
  obtain ⟨s, hs⟩ : ∃ s, s = ByteArray.mk l.toArray := ⟨_, rfl⟩
  rw [← hs] at hsz ⊢
  have hss : 4 ≤ s.size := by omega
  have hsl : s.size ≤ 549755813888 := by omega
  have hok := okB_iff l h4
  have hbl : (l.take (l.length - 4)).length ≤ 549755813888 := by rw [List.length_take]; omega
  have hex : s.extract 0 (s.size - 4) = ByteArray.mk (l.take (l.length - 4)).toArray := by
    rw [hsz, hs]
    apply ByteArray.ext
    rw [ByteArray.data_extract]
    simp
  have hfin : ∀ e w', e = .returned (.tuple #[.string ⟨(if okB l then l.take (l.length - 4) else []).toArray⟩, .int .i64 (if okB l then 0 else 5)]) → Turns (fun _ => False) w w' → RefOpens l w e w' := by
    intro e w' he ht
    refine ⟨?_, ht⟩
    rw [if_neg (show ¬ l.length < 4 by omega)]
    exact he
  generalize l.take (l.length - 4) = bd at *
  have HS := Lib.hid hs
  have HOK := Lib.hid hok
  have HBL := Lib.hid hbl
  have HFIN := Lib.hid hfin
  clear hs hsz hok hbl hfin h4 hl
  cases hb : okB l with
  | true =>
    have HE : Hid (ByteArray.mk (sealB bd).toArray = s) := by
      show ByteArray.mk (sealB bd).toArray = s
      have := HOK.out
      rw [hb] at this
      rw [HS.out, show sealB bd = l from by simpa using this.symm]
    have HF : Hid (∀ w', Turns (fun _ => False) w w' → RefOpens l w (.returned (.tuple #[.string ⟨bd.toArray⟩, .int .i64 0])) w') := fun w' ht => HFIN.out _ _ (by rw [hb]; rfl) ht
    clear hb HOK HFIN
    go_enter Try.func28, Try.ntmps28
    go_wp2_with fail
    with_reducible refine (refseal_calls bd w HBL.out).mono ?_
    rintro e w1 ⟨rfl, ht1⟩
    rw [HE.out]
    have HT1 := Lib.hid (HF.out w1 ht1)
    clear ht1 HF HE HS
    have HEX := Lib.hid hex
    go_wp2
    go_ret2
    rw [HEX.out]
    exact HT1.out
  | false =>
    have HE : Hid (ByteArray.mk (sealB bd).toArray ≠ s) := by
      intro e
      have := HOK.out
      rw [hb] at this
      rw [HS.out] at e
      have e2 : sealB bd = l := by
        injection e with e
        simpa using congrArg Array.toList e
      simp [e2] at this
    have HF : Hid (∀ w', Turns (fun _ => False) w w' → RefOpens l w (.returned (.tuple #[.string ⟨#[]⟩, .int .i64 5])) w') := fun w' ht => HFIN.out _ _ (by rw [hb]; rfl) ht
    clear hb HOK HFIN
    go_enter Try.func28, Try.ntmps28
    go_wp2_with fail
    with_reducible refine (refseal_calls bd w HBL.out).mono ?_
    rintro e w1 ⟨rfl, ht1⟩
    have hne := HE.out
    generalize ByteArray.mk (sealB bd).toArray = y at *
    have hne2 : y.toList ≠ s.toList := by
      intro e
      apply hne
      rw [ByteArray.toList_eq, ByteArray.toList_eq] at e
      exact ByteArray.ext (Array.toList_inj.1 e)
    have hne3 : (y.toList == s.toList) = false := by simpa using hne2
    have hne4 : (y.toList != s.toList) = true := by simpa using hne2
    have HT1 := Lib.hid (HF.out w1 ht1)
    clear ht1 HF HE HS hne
    go_wp2
    go_ret2
    exact HT1.out
end Go.Proofs.Ytnfiaibfhfpmjaa
