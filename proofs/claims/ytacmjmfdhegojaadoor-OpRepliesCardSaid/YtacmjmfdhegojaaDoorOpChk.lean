/-
  Check and Bytes: what is wrong with an operation, or its bytes; and the law's example.
  Conditions: texts of at most 65535 bytes; the table reads as it is laid.
-/
import Derived.Test.YtacmjmfdhegojaaDoorOpWr
namespace Go.Proofs.YtacmjmfdhegojaaDoor
open Go.RowKit

/-- What Check tells. -/
def chk14 (o : O14) : Int := if frm_14 o = true then (if 64 < (opB14 o).length then 3 else 0) else 4
theorem opB14_few {o : O14} (h : Lit14 o) : (opB14 o).length ≤ 131075 := by
  have h1 := parts14_length h (sig14 o.kd.toNat)
  have h2 := sig14_few o.kd.toNat
  unfold opB14
  rw [List.length_append, le_length]
  omega

set_option maxRecDepth 100000 in
set_option maxHeartbeats 1000000 in
theorem check14_calls (o : O14) (w : World) (h : Laid14 w) (hlit : Lit14 o) : Calls Tryd.prog 10 #[o.v] w (Says14 (.int .i64 (chk14 o)) w) := by
  obtain ⟨r, hr⟩ : ∃ r, r = chk14 o := ⟨_, rfl⟩
  rw [← hr]
  unfold chk14 at hr
  have HFO := Lib.hid (fun W (hw : Laid14 W) => formed14_calls o W hw)
  have HWR := Lib.hid (fun W (hw : Laid14 W) => written14_calls o W hw hlit)
  have hb1 := alloc14 (Below.refl _ w) (.cells #[.int .u8 o.kd.toNat, .string o.a, .string o.b, .int .u8 o.nd.toNat, .int .u8 o.rl.toNat] 24)
  have ha1 : OpAt (w.alloc (.cells #[.int .u8 o.kd.toNat, .string o.a, .string o.b, .int .u8 o.nd.toNat, .int .u8 o.rl.toNat] 24)) w.heap.size o := heap_alloc_new w _
  have HB1 := Lib.hid hb1
  have HA1 := Lib.hid ha1
  have HL := Lib.hid (h.later hb1)
  have HLEN := Lib.hid (opB14_few hlit)
  clear hb1 ha1 h hlit
  generalize opB14 o = bs at *
  generalize frm_14 o = b at *
  unfold O14.v O14.cells at HFO HWR ⊢
  cases b
  · rw [if_neg (by decide)] at hr
    subst hr
    go_enter Tryd.func10, Tryd.ntmps10
    go_wp2_with (go_at_call 25; (with_reducible refine (HFO.out _ HL.out).mono ?_); rintro e w2 ⟨rfl, hb⟩; have HB2 := Lib.hid (next14 HB1.out hb); clear hb)
    go_wp2
    go_ret
    exact ⟨rfl, HB2.out⟩
  · rw [if_pos rfl] at hr
    have HRR := Lib.hid hr
    clear hr
    go_enter Tryd.func10, Tryd.ntmps10
    go_wp2_with (go_at_call 25; (with_reducible refine (HFO.out _ HL.out).mono ?_); rintro e w2 ⟨rfl, hb⟩; have HB2 := Lib.hid (next14 HB1.out hb); have HA2 := Lib.hid (HA1.out.below hb); have HL2 := Lib.hid (HL.out.later hb); have z0 := HA2.out.c0; have z1 := HA2.out.c1; have z2 := HA2.out.c2; have z3 := HA2.out.c3; have z4 := HA2.out.c4; clear hb)
    go_wp2_with fail
    with_reducible refine (HWR.out _ HL2.out).mono ?_
    rintro e w3 ⟨v, rfl, ho, hv, hb⟩
    obtain ⟨A, c, rfl⟩ := owns_shape ho
    have HB3 := Lib.hid (next14 HB2.out hb)
    have hr := HRR.out
    clear ho hv hb z0 z1 z2 z3 z4 HLEN HRR
    generalize bs.length = n at *
    by_cases hn : 64 < n
    · rw [if_pos hn] at hr
      subst hr
      have hd : decide ((n : Int) > 64) = true := by simp; omega
      clear hn
      go_wp2
      go_ret
      exact ⟨rfl, HB3.out⟩
    · rw [if_neg hn] at hr
      subst hr
      have hd : decide ((n : Int) > 64) = false := by simp; omega
      clear hn
      go_wp2
      go_ret
      exact ⟨rfl, HB3.out⟩

/-- What Bytes tells. -/
def Bys14 (w : World) (o : O14) (e : Ending) (w' : World) : Prop :=
  (chk14 o ≠ 0 ∧ e = .returned (.tuple #[.slice none 0 0, .int .i64 (chk14 o)]) ∧ Below w.heap.size w w') ∨
  (chk14 o = 0 ∧ ∃ A c, e = .returned (.tuple #[.slice A (opB14 o).length c, .int .i64 0]) ∧ w'.ownsRow 0 5 1 (.slice A (opB14 o).length c) (opB14 o).length (cellsOf (opB14 o)) ∧ (∀ k, Value.ownBlock (.slice A (opB14 o).length c) = some k → w.heap.size ≤ k) ∧ Below w.heap.size w w')
set_option maxRecDepth 100000 in
set_option maxHeartbeats 1000000 in
theorem bytes14_calls (o : O14) (w : World) (h : Laid14 w) (hlit : Lit14 o) : Calls Tryd.prog 8 #[o.v] w (Bys14 w o) := by
  have HCK := Lib.hid (fun W (hw : Laid14 W) => check14_calls o W hw hlit)
  have HWR := Lib.hid (fun W (hw : Laid14 W) => written14_calls o W hw hlit)
  have hb1 := alloc14 (Below.refl _ w) (.cells #[.int .u8 o.kd.toNat, .string o.a, .string o.b, .int .u8 o.nd.toNat, .int .u8 o.rl.toNat] 24)
  have ha1 : OpAt (w.alloc (.cells #[.int .u8 o.kd.toNat, .string o.a, .string o.b, .int .u8 o.nd.toNat, .int .u8 o.rl.toNat] 24)) w.heap.size o := heap_alloc_new w _
  have HB1 := Lib.hid hb1
  have HA1 := Lib.hid ha1
  have HL := Lib.hid (h.later hb1)
  clear hb1 ha1 h hlit
  unfold Bys14
  generalize opB14 o = bs at *
  generalize chk14 o = ck at *
  unfold O14.v O14.cells at HCK HWR ⊢
  by_cases hc : ck = 0
  · subst hc
    go_enter Tryd.func8, Tryd.ntmps8
    go_wp2_with (go_at_call 10; (with_reducible refine (HCK.out _ HL.out).mono ?_); rintro e w2 ⟨rfl, hb⟩; have HB2 := Lib.hid (next14 HB1.out hb); have HA2 := Lib.hid (HA1.out.below hb); have HL2 := Lib.hid (HL.out.later hb); have z0 := HA2.out.c0; have z1 := HA2.out.c1; have z2 := HA2.out.c2; have z3 := HA2.out.c3; have z4 := HA2.out.c4; clear hb)
    go_wp2_with fail
    with_reducible refine (HWR.out _ HL2.out).mono ?_
    rintro e w3 ⟨v, rfl, ho, hv, hb⟩
    obtain ⟨A, c, rfl⟩ := owns_shape ho
    have HB3 := Lib.hid (next14 HB2.out hb)
    have HO := Lib.hid ho
    have HV := Lib.hid (fun k hk => Nat.le_trans HB2.out.size (hv k hk))
    clear ho hv hb z0 z1 z2 z3 z4
    go_wp2
    go_ret2
    exact .inr ⟨by first | rfl | trivial, _, _, rfl, HO.out, HV.out, HB3.out⟩
  · have hd : (ck != 0) = true := by simpa using hc
    have HC := Lib.hid hc
    clear hc
    go_enter Tryd.func8, Tryd.ntmps8
    go_wp2_with (go_at_call 10; (with_reducible refine (HCK.out _ HL.out).mono ?_); rintro e w2 ⟨rfl, hb⟩; have HB2 := Lib.hid (next14 HB1.out hb); clear hb)
    go_wp2
    go_ret2
    exact .inl ⟨HC.out, rfl, HB2.out⟩

/-- The chapter's example. -/
def ex14 : O14 := ⟨0, ⟨#[97]⟩, ⟨#[49]⟩, 0, 0⟩
theorem ex14_bytes : opB14 ex14 = [0, 1, 0, 97, 1, 0, 49] := by decide
theorem ex14_check : chk14 ex14 = 0 := by decide
set_option maxRecDepth 100000 in
theorem lives14_calls (w : World) (h : Laid14 w) : Calls Tryd.prog 7 #[] w (Says14 (.bool true) w) := by
  have HB := Lib.hid (bytes14_calls ex14 w h ⟨by decide, by decide⟩)
  unfold Bys14 at HB
  rw [ex14_bytes, ex14_check] at HB
  clear h
  go_enter Tryd.func7, Tryd.ntmps7
  go_wp2_with fail
  refine HB.out.mono ?_
  rintro e w2 (⟨h, _⟩ | ⟨_, A, c, rfl, ho, hv, hb⟩)
  · exact absurd rfl h
  have hst := (Rd.of_own ho).string (P := Tryd.prog) (src := 27) (dst := 9) Tryd.underlying27 Tryd.underlying5 Tryd.underlying9
  have hst7 : (convert 27 9 (.slice A 7 c)).run Tryd.prog w2 = .ok (.string ⟨#[0, 1, 0, 97, 1, 0, 49]⟩) w2 := hst
  have HB2 := Lib.hid hb
  clear hst ho hv hb
  go_wp2
  go_ret
  exact ⟨rfl, HB2.out⟩
end Go.Proofs.YtacmjmfdhegojaaDoor
