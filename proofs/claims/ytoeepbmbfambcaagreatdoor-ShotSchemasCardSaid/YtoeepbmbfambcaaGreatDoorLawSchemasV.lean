/-
  What this law alone needs, the law walked, and its statement.
  Conditions: each theorem's own.
-/
import Derived.Test.YtoeepbmbfambcaaGreatDoorRows
import Derived.Test.YtoeepbmbfambcaaGreatDoorCards
import Derived.Test.YtoeepbmbfambcaaGreatDoorTie
import Derived.Test.YtoeepbmbfambcaaGreatDoorShotAllA
import Derived.Test.YtoeepbmbfambcaaGreatDoorShotAllB
import Derived.Test.YtoeepbmbfambcaaGreatDoorShotAllC
import Derived.Test.YtoeepbmbfambcaaGreatDoorShotAllD
import Derived.Test.YtoeepbmbfambcaaGreatDoorShotAllE
namespace Go.Proofs.YtoeepbmbfambcaaGreatDoor
open Go.RowKit Go.Maps Go.Sort Go.Shelf

set_option maxRecDepth 100000 in
set_option maxHeartbeats 4000000 in
theorem schemas_walk (A0 : Option Addr) (len c0 : Nat) (bl : List UInt8) (w : World) (hlen : len = bl.length) (hmax : bl.length ≤ 9223372036854775807) (hrd : Rd w (.slice A0 len c0) bl) (hm : Len5 w) :
    Calls Tryz.prog 6 #[.slice A0 len c0] w (Tells5 true w) := by
  have hnot : ∀ (x : Bool) (w : World), (Op.unary .not (.bool x)).run Tryz.prog w = .ok (.bool (!x)) w := fun _ _ => rfl
  have HV : Hid (∀ W, Below w.heap.size w W → Calls Tryz.prog 7 #[] W (Tells5 true W)) := fun W hb => lives8_calls W (hm.later hb)
  have HRD : Hid (bl.length ≤ 600 → ∀ W, Below w.heap.size w W → Calls Tryz.prog 10 #[.slice A0 len c0] W (Read8 W (readS bl))) := fun h W hb => read8_calls _ bl W (hrd.still (Turns.of_below hb _)) (by omega) (hm.later hb)
  have HSC : Hid (∀ W, Below w.heap.size w W → Calls Tryz.prog 12 #[.slice A0 len c0] W fun e w' => e = .returned (.int .i64 (schema8 bl)) ∧ W = w') := fun W hb => sch8_calls _ bl W (hrd.still (Turns.of_below hb _))
  have HRd := Lib.hid hrd
  have HL := Lib.hid hlen
  have HB0 := Lib.hid (Below.refl w.heap.size w)
  clear hrd hm
  have hmx : len ≤ 9223372036854775807 := by omega
  clear hlen hmax
  go_enter Tryz.func6, Tryz.ntmps6
  go_wp2_with fail
  with_reducible refine (HV.out w HB0.out).mono ?_
  rintro e w1 ⟨rfl, hb⟩
  have HB1 := Lib.hid (below_next HB0.out hb)
  clear hb HB0
  by_cases h6 : 600 < len
  · have z6 : (len : Int) > 600 := by omega
    go_wp2_with fail
    with_reducible refine (HV.out w1 HB1.out).mono ?_
    rintro e w2 ⟨rfl, hb⟩
    have HB2 := Lib.hid (below_next HB1.out hb)
    clear hb
    go_wp2
    go_ret
    exact ⟨rfl, HB2.out⟩
  have z6 : ¬ (len : Int) > 600 := by omega
  have HRD1 := Lib.hid (HRD.out (by have := HL.out; omega) w1 HB1.out)
  clear HV HRD
  cases bl with
  | nil =>
    obtain rfl : len = 0 := HL.out
    clear HRd HL
    have HSC' : Hid (∀ W, Below w.heap.size w W → Calls Tryz.prog 12 #[.slice A0 0 c0] W fun e w' => e = .returned (.int .i64 0) ∧ W = w') := HSC
    have HRD2 : Hid (Calls Tryz.prog 10 #[.slice A0 0 c0] w1 fun e w' => e = .returned (.tuple #[.pointer none, .int .i64 2]) ∧ Below w1.heap.size w1 w') := HRD1.out.mono fun e w' h => by
      rcases h with ⟨_, he, hb⟩ | ⟨h0, _⟩
      · exact ⟨he, hb⟩
      · cases h0
    clear HSC HRD1
    go_wp2_with fail
    with_reducible refine HRD2.out.mono ?_
    rintro e w2 ⟨rfl, hb⟩
    have HB2 := Lib.hid (below_next HB1.out hb)
    clear hb HRD2
    go_wp2_with fail
    with_reducible refine (HSC'.out w2 HB2.out).mono ?_
    rintro e w3 ⟨rfl, rfl⟩
    go_wp2
    go_ret
    exact ⟨rfl, HB2.out⟩
  | cons b r =>
    obtain ⟨g, off, c, he, hc⟩ := HRd.out.at_ 0 (by simp)
    injection he with e1 e2 e3
    subst e1 e3
    clear e2
    have HC : Hid (∀ W, Below w.heap.size w W → W.cell? ⟨g, off, none⟩ = some (.int .u8 (b.toNat : Int))) := fun W hb => (hb.cell (p := ⟨g, off, none⟩) (HRd.out.lt (by simp) g rfl)).trans hc
    have hp : 0 < len := by rw [HL.out]; simp
    have hpz : (len : Int) > 0 := by omega
    have hpn : ((len : Int) == 0) = false := by simp; omega
    have hb8 : b.toNat < 256 := b.toNat_lt
    have HRD2 : Hid (Calls Tryz.prog 10 #[.slice (some ⟨g, off, none⟩) len c0] w1 fun e w' => (∃ v, e = .returned (.tuple #[v, .int .i64 (readS (b :: r)).1])) ∧ Below w1.heap.size w1 w') := HRD1.out.mono fun e w' h => by
      rcases h with ⟨_, he, hb⟩ | ⟨h0, B, he, ho⟩
      · exact ⟨⟨_, he⟩, hb⟩
      · exact ⟨⟨_, by rw [h0]; exact he⟩, ho.below⟩
    have HE : Hid (b.toNat ≠ 1 → (readS (b :: r)).1 = 6) := fun h => by
      rw [readS_cons, if_neg (fun e => h (by rw [e]; rfl))]
    have HSC' : Hid (∀ W, Below w.heap.size w W → Calls Tryz.prog 12 #[.slice (some ⟨g, off, none⟩) len c0] W fun e w' => e = .returned (.int .i64 (if b.toNat = 1 ∨ b.toNat = 2 then (b.toNat : Int) else 0)) ∧ W = w') := HSC
    have hc1 := HC.out w1 HB1.out
    clear HSC HRD1 hc HRd HL
    generalize (readS (b :: r)).1 = er at *
    generalize b.toNat = x at *
    by_cases h1 : x = 1
    · subst h1
      rw [if_pos (.inl rfl)] at HSC'
      go_wp2_with fail
      with_reducible refine HRD2.out.mono ?_
      rintro e w2 ⟨⟨v, rfl⟩, hb⟩
      have HB2 := Lib.hid (below_next HB1.out hb)
      have hc2 := HC.out w2 HB2.out
      clear hb HRD2 hc1
      go_wp2_with fail
      with_reducible refine (HSC'.out w2 HB2.out).mono ?_
      rintro e w3 ⟨rfl, rfl⟩
      go_wp2
      go_ret
      exact ⟨rfl, HB2.out⟩
    obtain rfl := HE.out h1
    have zx : ((x : Int) == 1) = false := by simp; omega
    by_cases h2 : x = 2
    · subst h2
      rw [if_pos (.inr rfl)] at HSC'
      go_wp2_with fail
      with_reducible refine HRD2.out.mono ?_
      rintro e w2 ⟨⟨v, rfl⟩, hb⟩
      have HB2 := Lib.hid (below_next HB1.out hb)
      have hc2 := HC.out w2 HB2.out
      clear hb HRD2 hc1
      go_wp2_with fail
      with_reducible refine (HSC'.out w2 HB2.out).mono ?_
      rintro e w3 ⟨rfl, rfl⟩
      go_wp2
      go_ret
      exact ⟨rfl, HB2.out⟩
    · rw [if_neg (by omega)] at HSC'
      by_cases h3 : 1 ≤ x
      · have y1 : (x : Int) ≥ 1 := by omega
        have y2 : ¬ (x : Int) ≤ 2 := by omega
        go_wp2_with fail
        with_reducible refine HRD2.out.mono ?_
        rintro e w2 ⟨⟨v, rfl⟩, hb⟩
        have HB2 := Lib.hid (below_next HB1.out hb)
        have hc2 := HC.out w2 HB2.out
        clear hb HRD2 hc1
        go_wp2_with fail
        with_reducible refine (HSC'.out w2 HB2.out).mono ?_
        rintro e w3 ⟨rfl, rfl⟩
        go_wp2
        go_ret
        exact ⟨rfl, HB2.out⟩
      · have y1 : ¬ (x : Int) ≥ 1 := by omega
        go_wp2_with fail
        with_reducible refine HRD2.out.mono ?_
        rintro e w2 ⟨⟨v, rfl⟩, hb⟩
        have HB2 := Lib.hid (below_next HB1.out hb)
        have hc2 := HC.out w2 HB2.out
        clear hb HRD2 hc1
        go_wp2_with fail
        with_reducible refine (HSC'.out w2 HB2.out).mono ?_
        rintro e w3 ⟨rfl, rfl⟩
        go_wp2
        go_ret
        exact ⟨rfl, HB2.out⟩
end Go.Proofs.YtoeepbmbfambcaaGreatDoor

namespace Go.Proofs.YtoeepbmbfambcaaGreatDoor.shotSchemas
open Go.ChangeShapes Go.WideShapes Go.ChangeAt Go.RowKit
set_option linter.unusedVariables false

theorem own : ownKnob Tryz.prog.godebug = none := by kernel_rfl
theorem laidOut : laidOutB Tryz.prog = true := by kernel_rfl

theorem walk (w : World) (hm : Len5 w) (a0 : Option Addr) (len0 cap0 : Nat) (bl0 : List UInt8) (s0 : IsBytes w a0 len0 cap0 bl0) :
    Calls Tryz.prog 6 #[.slice a0 len0 cap0] w fun e w' => e = .returned (.bool true) ∧ Below w.heap.size w w' := by
  exact schemas_walk a0 len0 cap0 bl0 w s0.1 s0.2.1 s0.2.2 hm

set_option maxRecDepth 100000 in
theorem lifted (os : Os) (started : os.Started) (H : Type) (enc : TypeId × Value → H) :
    ReturnsInHanded {} Tryz.checked os 6 .any (fun w args => (Rows.shotSchemasSpec.pre enc Tryz.prog Tryz.f6 Rows.shotSchemasRow.domain false w args ∧ laidMetH Tryz.prog Rows.shotSchemasRow.laid w) ∧ sizedMet enc Tryz.prog Tryz.f6 (OpenSpec.ofChange Rows.shotSchemasSpec) false w args)
      (Rows.shotSchemasSpec.post enc Tryz.prog Tryz.f6 false true false false) := by
  refine returns_laid (C := Tryz.checked) (X := fun w _ => laidMetH Tryz.prog Rows.shotSchemasRow.laid w) own started (by kernel_rfl) Tryz.func6
    (ChangeSpec.witness_shaped (enc := enc) (C := Tryz.checked) (os := os) (X := fun w _ => laidMetH Tryz.prog Rows.shotSchemasRow.laid w) false (World.laidAll Tryz.prog os Rows.shotSchemasRow.laid) #[.slice none 0 0] 8 (World.laidAll_os _ _ _)
      (World.shaped_of_ZipB (by kernel_rfl) (by kernel_rfl)) (by kernel_rfl) (by kernel_rfl) (by kernel_rfl)
      (by rw [MakeChecks.laidMetH_plain _ _ _ (by kernel_rfl)]; exact laidMet_laidAll _ (by kernel_rfl) (by kernel_rfl))) ?_
  intro W base args ds gs before hval0 hW hsh
  have hval : ∀ (j : Nat) t v, Tryz.f6.params[j]? = some t → args[j]? = some v → Value.okWide Tryz.prog W .any base t v := hval0
  have hW' := hW
  obtain ⟨p, q, hA0, hV, rfl, hfz, hnd⟩ := hW
  have hA : DataW.TrodAll enc Tryz.prog W 0 (fun _ => true) true Tryz.f6.params.toList args.toList ds p := hA0
  rw [Tryz.params6] at hA hval
  obtain ⟨v0, vs0, d0, ds0, p0, q0, hargs, rfl, rfl, h0, r0⟩ := trodAll_cons hA
  obtain ⟨rfl, rfl, rfl⟩ := trodAll_nil r0
  obtain rfl : args = #[v0] := by cases args; simp_all
  obtain ⟨rfl, rfl⟩ := trodVars_none hV
  obtain ⟨a0, len0, cap0, rfl⟩ := okWide_slice Tryz.underlying27 (hval 0 27 v0 rfl rfl)
  have lt0 : ∀ x ∈ p0, x.block < W.heap.size := by obtain ⟨m, hm⟩ := h0; exact DataW.trod_lt m _ _ _ hm
  obtain ⟨bl0, s0⟩ := bytes_of h0
  clear hA0 hval0
  refine (walk W (len5_of hsh) a0 len0 cap0 bl0 s0).mono fun e W' ⟨he, bel⟩ => ?_
  subst he
  exact ⟨_, rfl, _, _, _, [], _, [], hW', trodAll_mk1 (shut_bool Tryz.underlying4 _), (trodAll_cons_mk (Below.trod laidOut (by kernel_rfl) (of_decide_eq_true (by kernel_rfl)) h0 bel lt0) trodAll_mk0), rfl, bel.frame _, fun h => by cases h⟩

theorem row_holds : Rows.ShotSchemasSaid :=
  OpenClaim.holds_of_wide 6 Tryz.f6 rfl rfl rfl rfl rfl rfl rfl ⟨rfl, rfl, rfl, rfl, rfl⟩ rfl rfl rfl rfl rfl (by kernel_rfl) Tryz.func6 (by kernel_rfl)
    (of_decide_eq_true (by kernel_rfl)) (by unfold Func.isWrapper; first | (rw [if_pos (by decide +kernel)]; kernel_rfl) | (rw [if_neg (by decide +kernel)]; exact ⟨rfl, rfl⟩))
    (fun os started H enc _ => lifted os started H enc)

theorem proved : Rows.ShotSchemasCardSaid :=
  Claim7.holds_tied_plain_at .later [] Rows.shotSchemasCard.laidKinds true Rows.shotSchemasCard.stood.harness false row_holds (fun _ h => by cases h) (by kernel_rfl) (fun _ h => by cases h) shotSchemas_row_tie rfl ⟨rfl, rfl⟩ (by kernel_rfl) rfl
    (fun f fn hf hfn => by
      obtain rfl : f = 6 := Option.some.inj ((show Tryz.prog.funcNamed Rows.shotSchemasRow.func = some 6 by kernel_rfl).symm.trans hf) |>.symm
      obtain rfl : fn = Tryz.f6 := (Option.some.inj (Tryz.func6.symm.trans hfn)).symm
      exact ⟨by kernel_rfl, fun j t ht => by
        rw [Tryz.params6] at ht
        have hm : t ∈ [27] := by simpa using Array.mem_of_getElem? ht
        have hall : ([27].all fun u => !Tryz.prog.wantsStandIn u) = true := by kernel_rfl
        exact (show Tryz.prog.wantsStandIn t = false by simpa using List.all_eq_true.1 hall t hm)⟩)
    (by kernel_rfl)
end Go.Proofs.YtoeepbmbfambcaaGreatDoor.shotSchemas
