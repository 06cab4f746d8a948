/-
  The statement OpReplies: whatever is handed in, the law returns true, and the arguments read afterwards as before; the table of kinds that the row lists is tied to the program's text.
  Conditions: none.
-/
import Derived.Test.YtacmjmfdhegojaaDoorRows
import Derived.Test.YtacmjmfdhegojaaDoorCards
import Derived.Test.YtacmjmfdhegojaaDoorTie
import Derived.Test.YtacmjmfdhegojaaDoorOpCard
import Derived.Test.YtacmjmfdhegojaaDoorLawOReplies
import Derived.Test.YtacmjmfdhegojaaDoorOpenB
namespace Go.Proofs.YtacmjmfdhegojaaDoor.opReplies
open Go.ChangeShapes Go.WideShapes Go.ChangeAt Go.RowKit
set_option linter.unusedVariables false

theorem own : ownKnob Tryd.prog.godebug = none := by kernel_rfl
theorem laidOut : laidOutB Tryd.prog = true := by kernel_rfl

theorem walk (w : World) (hl : Laid14 w) (x0 : Int) (w0 : (Lit.int .u8 x0).wf = true) (a1 : Option Addr) (len1 cap1 : Nat) (l1 : List ByteArray) (s1 : IsTexts14 w a1 len1 cap1 l1) (a2 : Option Addr) (len2 cap2 : Nat) (bl2 : List UInt8) (s2 : IsBytes w a2 len2 cap2 bl2) :
    Calls Tryd.prog 5 #[.int .u8 x0, .slice a1 len1 cap1, .slice a2 len2 cap2] w fun e w' => e = .returned (.bool true) ∧ Below w.heap.size w w' := by
  obtain ⟨rfl, _, hr1, hc1, hcm1⟩ := s1
  obtain ⟨rfl, _, hv2⟩ := s2
  have bd : ∀ x : Int, (Lit.int .u8 x).wf = true → ∃ y : Nat, x = y ∧ y < 256 := fun x hx => by
    have hb : 0 ≤ x ∧ x ≤ 255 := by
      simp [Lit.wf, IntKind.min, IntKind.max, IntKind.signed, IntKind.bits] at hx
      omega
    exact ⟨x.toNat, by omega, by omega⟩
  obtain ⟨x0, rfl, hx0⟩ := bd x0 w0
  exact oreplies14_walk x0 a1 a2 cap1 cap2 l1 bl2 w hl hx0 hr1 hc1 hcm1 hv2

set_option maxRecDepth 100000 in
theorem lifted (os : Os) (started : os.Started) (H : Type) (enc : TypeId × Value → H) :
    ReturnsInHanded {} Tryd.checked os 5 .any (fun w args => (Rows.opRepliesSpec.pre enc Tryd.prog Tryd.f5 Rows.opRepliesRow.domain false w args ∧ laidMetH Tryd.prog Rows.opRepliesRow.laid w) ∧ sizedMet enc Tryd.prog Tryd.f5 (OpenSpec.ofChange Rows.opRepliesSpec) false w args)
      (Rows.opRepliesSpec.post enc Tryd.prog Tryd.f5 false true false false) := by
  refine returns_laid14 (C := Tryd.checked) (X := fun w _ => laidMetH Tryd.prog Rows.opRepliesRow.laid w) (fun _ _ _ hh h => h.of_heap hh) own started (by kernel_rfl) Tryd.func5
    (ChangeSpec.witness_shaped (enc := enc) (C := Tryd.checked) (os := os) (X := fun w _ => laidMetH Tryd.prog Rows.opRepliesRow.laid w) false (World.laidAll Tryd.prog os Rows.opRepliesRow.laid) #[.int .u8 0, .slice none 0 0, .slice none 0 0] 8 (World.laidAll_os _ _ _)
      (World.shaped_of_ZipB (by kernel_rfl) (by kernel_rfl)) (by kernel_rfl) (by kernel_rfl) (by kernel_rfl)
      (by rw [MakeChecks.laidMetH_plain _ _ _ (by kernel_rfl)]; exact laidMet_laidAll _ (by kernel_rfl) (by kernel_rfl))) ?_
  intro W base args ds gs before hval0 hW hlx
  have hval : ∀ (j : Nat) t v, Tryd.f5.params[j]? = some t → args[j]? = some v → Value.okWide Tryd.prog W .any base t v := hval0
  have hW' := hW
  obtain ⟨p, q, hA0, hV, rfl, hfz, hnd⟩ := hW
  have hA : DataW.TrodAll enc Tryd.prog W 0 (fun _ => true) true Tryd.f5.params.toList args.toList ds p := hA0
  rw [Tryd.params5] at hA hval
  obtain ⟨v0, vs0, d0, ds0, p0, q0, hargs, rfl, rfl, h0, r0⟩ := trodAll_cons hA
  obtain ⟨v1, vs1, d1, ds1, p1, q1, rfl, rfl, rfl, h1, r1⟩ := trodAll_cons r0
  obtain ⟨v2, vs2, d2, ds2, p2, q2, rfl, rfl, rfl, h2, r2⟩ := trodAll_cons r1
  obtain ⟨rfl, rfl, rfl⟩ := trodAll_nil r2
  obtain rfl : args = #[v0, v1, v2] := by cases args; simp_all
  obtain ⟨rfl, rfl⟩ := trodVars_none hV
  obtain ⟨x0, rfl, rfl, rfl, w0⟩ := open_int Tryd.underlying5 (hval 0 5 v0 rfl rfl) h0
  obtain ⟨a1, len1, cap1, rfl⟩ := okWide_slice Tryd.underlying40 (hval 1 40 v1 rfl rfl)
  have lt1 : ∀ x ∈ p1, x.block < W.heap.size := by obtain ⟨m, hm⟩ := h1; exact DataW.trod_lt m _ _ _ hm
  obtain ⟨l1, s1⟩ := texts14_of h1
  obtain ⟨a2, len2, cap2, rfl⟩ := okWide_slice Tryd.underlying27 (hval 2 27 v2 rfl rfl)
  have lt2 : ∀ x ∈ p2, x.block < W.heap.size := by obtain ⟨m, hm⟩ := h2; exact DataW.trod_lt m _ _ _ hm
  obtain ⟨bl2, s2⟩ := bytes_of h2
  clear hA0 hval0
  refine (walk W (laid14_of hlx) x0 w0 a1 len1 cap1 l1 s1 a2 len2 cap2 bl2 s2).mono fun e W' ⟨he, bel⟩ => ?_
  subst he
  exact ⟨_, rfl, _, _, _, [], _, [], hW', trodAll_mk1 (shut_bool Tryd.underlying4 _), (trodAll_cons_mk (shut_int Tryd.underlying5 w0) (trodAll_cons_mk (Below.trod laidOut (by kernel_rfl) (of_decide_eq_true (by kernel_rfl)) h1 bel lt1) (trodAll_cons_mk (Below.trod laidOut (by kernel_rfl) (of_decide_eq_true (by kernel_rfl)) h2 bel lt2) trodAll_mk0))), rfl, bel.frame _, fun h => by cases h⟩

theorem row_holds : Rows.OpRepliesSaid :=
  OpenClaim.holds_of_wide 5 Tryd.f5 rfl rfl rfl rfl rfl rfl rfl ⟨rfl, rfl, rfl, rfl, rfl⟩ rfl rfl rfl rfl rfl (by kernel_rfl) Tryd.func5 (by kernel_rfl)
    (of_decide_eq_true (by kernel_rfl)) (by unfold Func.isWrapper; first | (rw [if_pos (by decide +kernel)]; kernel_rfl) | (rw [if_neg (by decide +kernel)]; exact ⟨rfl, rfl⟩))
    (fun os started H enc _ => lifted os started H enc)

theorem proved : Rows.OpRepliesCardSaid :=
  Claim7.holds_tied_plain_at .later [] Rows.opRepliesCard.laidKinds true Rows.opRepliesCard.stood.harness Rows.opRepliesCard.stood.looks row_holds (fun _ h => by cases h) (by kernel_rfl) (fun _ h => by cases h) opReplies_row_tie rfl ⟨rfl, rfl⟩ (by kernel_rfl) rfl
    (fun f fn hf hfn => by
      obtain rfl : f = 5 := Option.some.inj ((show Tryd.prog.funcNamed Rows.opRepliesRow.func = some 5 by kernel_rfl).symm.trans hf) |>.symm
      obtain rfl : fn = Tryd.f5 := (Option.some.inj (Tryd.func5.symm.trans hfn)).symm
      exact ⟨by kernel_rfl, fun j t ht => by
        rw [Tryd.params5] at ht
        have hm : t ∈ [5, 40, 27] := by simpa using Array.mem_of_getElem? ht
        have hall : ([5, 40, 27].all fun u => !Tryd.prog.wantsStandIn u) = true := by kernel_rfl
        exact (show Tryd.prog.wantsStandIn t = false by simpa using List.all_eq_true.1 hall t hm)⟩)
    (by kernel_rfl)
end Go.Proofs.YtacmjmfdhegojaaDoor.opReplies
