/-
  OpReads walked: of any bytes the operation is the document's, whose bytes they are, or it is told what is wrong first.
  Conditions: the table reads as it is laid.
-/
import Derived.Test.YtacmjmfdhegojaaDoorOpRefA
namespace Go.Proofs.YtacmjmfdhegojaaDoor
open Go.RowKit

set_option maxRecDepth 100000 in
set_option maxHeartbeats 4000000 in
theorem oreads14_walk (A : Option Addr) (c : Nat) (bs : List UInt8) (w : World) (h : Laid14 w) (hv : Rd w (.slice A bs.length c) bs) (hm : bs.length ≤ 9223372036854775807) :
    Calls Tryd.prog 4 #[.slice A bs.length c] w fun e w' => e = .returned (.bool true) ∧ Below w.heap.size w w' := by
  have HLV := Lib.hid (fun W (hw : Laid14 W) => lives14_calls W hw)
  have HL := Lib.hid h
  have HV := Lib.hid hv
  by_cases hlen : 200 < bs.length
  · have dl : decide ((bs.length : Int) > 200) = true := by simp; omega
    clear hlen hv h hm
    generalize bs.length = n at *
    go_enter Tryd.func4, Tryd.ntmps4
    go_wp2_with fail
    with_reducible refine (HLV.out _ HL.out).mono ?_
    rintro e w1 ⟨rfl, hb⟩
    have HB1 := Lib.hid hb
    have HL1 := Lib.hid (HL.out.later hb)
    clear hb
    go_wp2_with fail
    with_reducible refine (HLV.out _ HL1.out).mono ?_
    rintro e w2 ⟨rfl, hb⟩
    have HB2 := Lib.hid (next14 HB1.out hb)
    clear hb
    go_wp2
    go_ret
    exact ⟨rfl, HB2.out⟩
  · have dl : decide ((bs.length : Int) > 200) = false := by simp; omega
    have HRD : Hid (∀ W, Below w.heap.size w W → Calls Tryd.prog 11 #[.slice A bs.length c] W (Says14 (.tuple #[(rdv14 bs).v, .int .i64 (rde14 bs)]) W)) := fun W hb => read14_calls _ bs W (h.later hb) (hv.still (turns14 hb)) hm
    have HRR := Lib.hid (fun W => rread14_calls bs W (by omega))
    have HCV : Hid (∀ W, Below w.heap.size w W → (convert 27 9 (.slice A bs.length c)).run Tryd.prog W = .ok (.string (tx14 bs)) W) := fun W hb => conv14 (hv.still (turns14 hb))
    have hG := got14 (bs := bs)
    have HLit : Hid (Lit14 (rdv14 bs)) := by
      by_cases he : rde14 bs = 0
      · exact (hG he).2.2
      · have : rdv14 bs = zero14 0 := by unfold rdv14; rw [if_neg he]
        show Lit14 (rdv14 bs)
        rw [this]
        exact ⟨Nat.zero_le _, Nat.zero_le _⟩
    have HBY := Lib.hid (fun W (hw : Laid14 W) => bytes14_calls (rdv14 bs) W hw HLit.out)
    have HNE : Hid (∀ W, (binOp .neq 26 (rdv14 bs).v (rdv14 bs).v).run Tryd.prog W = .ok (.bool false) W) := fun W => by rw [neqR14, same14_iff.2 rfl]; rfl
    have HG1 : Hid (rde14 bs = 0 → chk14 (rdv14 bs) = 0 ∧ opB14 (rdv14 bs) = bs) := fun he => ⟨(hG he).1, (hG he).2.1⟩
    unfold Bys14 at HBY
    clear hG HLit hlen hv h hm
    generalize rdv14 bs = o at *
    generalize rde14 bs = re at *
    generalize hn : bs.length = n at *
    unfold O14.v O14.cells at HRD HRR HBY HNE
    go_enter Tryd.func4, Tryd.ntmps4
    go_wp2_with fail
    with_reducible refine (HLV.out _ HL.out).mono ?_
    rintro e w1 ⟨rfl, hb⟩
    have HB1 := Lib.hid hb
    clear hb
    go_wp2_with fail
    with_reducible refine (HRD.out _ HB1.out).mono ?_
    rintro e w2 ⟨rfl, hb⟩
    have hb2 := next14 HB1.out hb
    have hz := alloc14 (Below.refl _ w2) (.cells #[.int .u8 o.kd.toNat, .string o.a, .string o.b, .int .u8 o.nd.toNat, .int .u8 o.rl.toNat] 24)
    have HB3 := Lib.hid (next14 hb2 hz)
    have hO3 : OpAt (w2.alloc (.cells #[.int .u8 o.kd.toNat, .string o.a, .string o.b, .int .u8 o.nd.toNat, .int .u8 o.rl.toNat] 24)) w2.heap.size o := heap_alloc_new w2 _
    have HO3 := Lib.hid hO3
    have hcv := HCV.out _ HB3.out
    clear hb hb2 hz hO3 HRD HLV HB1
    go_wp2_with fail
    with_reducible refine (HRR.out _).mono ?_
    rintro e w4 ⟨rfl, hb⟩
    have hb4 := next14 HB3.out hb
    have hO4 := HO3.out.below hb
    have hlt4 : w2.heap.size < w4.heap.size := hO4.lt
    have hz := alloc14 (Below.refl _ w4) (.cells #[.int .u8 o.kd.toNat, .string o.a, .string o.b, .int .u8 o.nd.toNat, .int .u8 o.rl.toNat] 26)
    have HB5 := Lib.hid (next14 hb4 hz)
    have y0 := hO4.c0
    have y1 := hO4.c1
    have y2 := hO4.c2
    have y3 := hO4.c3
    have y4 := hO4.c4
    have hne := HNE.out
    have dself : (re != re) = false := by simp
    have HL5 := Lib.hid (HL.out.later HB5.out)
    clear hb hb4 hO4 hz HRR HB3 HO3 hcv HNE
    go_wp2_with fail
    refine (HBY.out _ HL5.out).mono ?_
    clear y0 y1 y2 y3 y4 hne dself
    rintro e w6 (⟨hck, rfl, hb⟩ | ⟨hck, A2, c2, rfl, ho, hv, hb⟩)
    · have HB6 := Lib.hid (next14 HB5.out hb)
      have hre : ¬ re = 0 := fun e => hck (HG1.out e).1
      have d0 : (re != 0) = true := by simpa using hre
      clear hb hck hre HBY HG1
      generalize chk14 o = ck at *
      go_wp2
      go_ret
      exact ⟨rfl, HB6.out⟩
    · have HB6 := Lib.hid (next14 HB5.out hb)
      have hrd := Rd.of_own ho
      have hcw := conv14 hrd
      have hcx := HCV.out _ HB6.out
      clear hb ho hv hrd HBY HCV
      by_cases hre : re = 0
      · subst hre
        have he := (HG1.out rfl).2
        rw [he] at hcw ⊢
        rw [hn] at hcw ⊢
        clear hck HG1 he hn
        generalize tx14 bs = s at *
        have hss : (s.toList == s.toList) = true := by simp
        go_wp2
        go_ret
        exact ⟨rfl, HB6.out⟩
      · have d0 : (re != 0) = true := by simpa using hre
        clear hck HG1 hre hcw
        generalize (opB14 o).length = m at *
        go_wp2
        go_ret
        exact ⟨rfl, HB6.out⟩
end Go.Proofs.YtacmjmfdhegojaaDoor
