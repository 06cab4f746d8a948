/-
  What this law alone needs, the law walked, and its statement.
  Conditions: each theorem's own.
-/
import Derived.Test.YthlgmkfofebbfaaGreatDoorRows
import Derived.Test.YthlgmkfofebbfaaGreatDoorCards
import Derived.Test.YthlgmkfofebbfaaGreatDoorTie
import Derived.Test.YthlgmkfofebbfaaGreatDoorNwrBaseA
import Derived.Test.YthlgmkfofebbfaaGreatDoorNwrBaseB
import Derived.Test.YthlgmkfofebbfaaGreatDoorNwrBaseC
import Derived.Test.YthlgmkfofebbfaaGreatDoorNwrBaseD
import Derived.Test.YthlgmkfofebbfaaGreatDoorNwrBaseE
import Derived.Test.YthlgmkfofebbfaaGreatDoorNwrBaseF
import Derived.Test.YthlgmkfofebbfaaGreatDoorNwrBaseG
import Derived.Test.YthlgmkfofebbfaaGreatDoorNwrBaseH
import Derived.Test.YthlgmkfofebbfaaGreatDoorNwrBaseI
import Derived.Test.YthlgmkfofebbfaaGreatDoorNwrBaseJ
namespace Go.Proofs.YthlgmkfofebbfaaGreatDoor
open Go.RowKit Go.Maps
set_option linter.unusedVariables false

theorem LoopFacts11 {w0 wr : World} {D P M G Wb k : Nat} (h : Loop11 w0 D P M G Wb k wr) : Below w0.heap.size w0 wr := by
 obtain ⟨A, L, S, R, A1, C1, A2, C2, ho, _⟩ := h
 exact ho.below
theorem loop11_next {w0 W w5 : World} {D P M G Wb k : Nat} {A : Acc11} {L : Row7} {S : Grs10} {R : RowV W11} {x1 x2 : Value} {A1 A2 : Option Addr} {C1 C2 : Nat} (hx : Bx11 W Wb x1 x2) (h0 : w0.heap.size ≤ Wb) (hk : Keeps11 W w5) (ho : Own11 w0 w5 D P M G A L S) (hg : Good11 A L S k) (hr : Rc11 0 R w5 (.slice A1 R.length C1)) (hn : NmR w5 (.slice A2 (names10 S).length C2) (names10 S)) (hp : plainR R = tell11 A L S) :
  Loop11 w0 D P M G Wb k ((w5.setCell ⟨Wb, 0, none⟩ (.slice A1 R.length C1)).setCell ⟨Wb, 1, none⟩ (.slice A2 (names10 S).length C2)) := by
 have hx5 := hx.keeps11 hk
 have hkg : KeepD11 w5 ((w5.setCell ⟨Wb, 0, none⟩ (.slice A1 R.length C1)).setCell ⟨Wb, 1, none⟩ (.slice A2 (names10 S).length C2)) := (hx5.keep 0 _).trans ((hx5.set0 _).keep 1 _)
 exact ⟨A, L, S, R, A1, C1, A2, C2, (ho.cell11 hx5 h0 _).cell11 (hx5.set0 _) h0 _, hg, (hx5.set0 _).set1 _, hr.keepD11 hkg, hn.keepD11 hkg, hp⟩

set_option maxRecDepth 100000 in
set_option maxHeartbeats 16000000 in
theorem plays11_walk (A : Option Addr) (c n : Nat) (l : List ActN) (w : World) (hm : Len5 w) (hl : n = l.length) (hn : n ≤ 9223372036854775807) (hr : RdAN w A l) :
  Calls Tryz.prog 3 #[.slice A n c] w (Tells5 true w) := by
 have HV : Hid (∀ W, Below w.heap.size w W → Calls Tryz.prog 7 #[] W (Tells5 true W)) := fun W hb => lives11_calls W (hm.later hb)
 have HNW : Hid (∀ W, Calls Tryz.prog 9 #[] W fun e w' => ∃ D P M G, e = .returned (.pointer (some ⟨D, 0, none⟩)) ∧ Own11 W w' D P M G [] [] []) := nnew11_calls
 have HF : Hid (∀ W, Below w.heap.size w W → Calls Tryz.prog 8 #[.slice A n c] W (Tells5 (few11L l) W)) := fun W hb => few11L_calls A c n l W hl hn (hr.later hb)
 have HFW : Hid (few11L l = true → n ≤ 60 ∧ ∀ t ∈ l, t.nm.size ≤ 50 ∧ t.hs.size ≤ 50) := fun h => ⟨by rw [hl]; exact few11L_len h, few11L_size h⟩
 have HR := Lib.hid hr
 have HL := Lib.hid hl
 have H5 := Lib.hid hm
 clear hr hl hm
 generalize few11L l = fw at *
 have hzd : ∀ w : World, (zeroValue TD11).run Tryz.prog w = .ok (.agg #[.slice none 0 0, .slice none 0 0]) w := fun w => by kernel_rfl
 go_enter Tryz.func3, Tryz.ntmps3
 go_wp2_with fail
 with_reducible refine (HV.out w (Below.refl _ _)).mono ?_
 rintro e w1 ⟨rfl, hb⟩
 have HB1 := Lib.hid hb
 clear hb
 go_wp2_with fail
 with_reducible refine (HF.out w1 HB1.out).mono ?_
 rintro e w2 ⟨rfl, hb⟩
 have HB2 := Lib.hid (below_next HB1.out hb)
 clear hb HF HB1
 have BAD : Hid (∀ W, Below w.heap.size w W → Calls Tryz.prog 7 #[] W fun e w' => e = .returned (.bool true) ∧ Hid (Below w.heap.size w w')) := fun W hb => (HV.out W hb).mono fun e w' ⟨he, hb'⟩ => ⟨he, below_next hb hb'⟩
 clear HV
 cases fw with
 | false =>
  go_wp2_with fail
  with_reducible refine (BAD.out w2 HB2.out).mono ?_
  rintro e w3 ⟨rfl, HB3⟩
  go_wp2
  go_ret
  exact ⟨rfl, HB3.out⟩
 | true =>
 obtain ⟨hn60, hsz⟩ := HFW.out rfl
 have HSZ := Lib.hid hsz
 clear HFW hsz
 clear BAD
 go_wp2_with fail
 with_reducible refine (HNW.out w2).mono ?_
 rintro e w3 ⟨D, P, M, G, rfl, ho⟩
 have HO := Lib.hid ho
 have HZB : Hid (w2.heap.size ≤ w3.heap.size) := ho.below.size
 have H52 := Lib.hid (H5.out.later HB2.out)
 clear HNW H5 ho 
 have HL0 : Hid (Loop11 w2 D P M G w3.heap.size 0 (w3.alloc (.cells #[.slice none 0 0, .slice none 0 0] TD11))) := by
  have hb := below_alloc (Below.refl w3.heap.size w3) (.cells #[.slice none 0 0, .slice none 0 0] TD11)
  exact ⟨[], [], [], [], none, 0, none, 0, HO.out.later hb, Good11.nil, bx11_new _ _ _, Rc11.nil _ _, NmR.nil _, rfl⟩
 clear HO
 go_wp2
 clear hzd
 generalize w3.alloc (.cells #[.slice none 0 0, .slice none 0 0] TD11) = w4 at *
 generalize w3.heap.size = Wb at *
 go_loopg [19] n (fun gg s19 wr => ∃ k : Nat, k ≤ n ∧ n - k ≤ gg ∧ s19 = .int .i64 k ∧ Hid (Loop11 w2 D P M G Wb k wr))
 case atStart => exact ⟨0, Nat.zero_le _, by omega, rfl, HL0⟩
 case round =>
  obtain ⟨k, hk, hg, rfl, HW⟩ := hrel
  by_cases hlt : k < n
  ·
   have hltz : (k : Int) < (n : Int) := by omega
   have hkl : k < l.length := HL.out ▸ hlt
   obtain ⟨A0, L0, S0, R, A1, C1, A2, C2, ho, hgd, hx, hr1, hn1, hp1⟩ := HW.out
   obtain ⟨b, off, rfl, hb, hc⟩ := (HR.out.later (below_next HB2.out ho.below)) (by intro e; rw [e] at hkl; exact absurd hkl (Nat.not_lt_zero _))
   have c0 : wr.cell? ⟨b, off + k * 4, none⟩ = some (.int .u8 (l[k].kd : Int)) := hc k hkl 0 _ rfl
   have c1 : wr.cell? ⟨b, off + k * 4 + 1, none⟩ = some (.string l[k].nm) := hc k hkl 1 _ rfl
   have c2 : wr.cell? ⟨b, off + k * 4 + 2, none⟩ = some (.string l[k].hs) := hc k hkl 2 _ rfl
   have c3 : wr.cell? ⟨b, off + k * 4 + 3, none⟩ = some (.bool l[k].is_) := hc k hkl 3 _ rfl
   have hbv := below_alloc (Below.refl wr.heap.size wr) (.cells #[.int .u8 (l[k].kd : Int), .string l[k].nm, .string l[k].hs, .bool l[k].is_] 32)
   have HDO := Lib.hid (do11_calls R _ _ l[k].kd l[k].nm l[k].hs l[k].is_ _ (ho.later hbv) hgd (by omega) H52.out (hr1.later hbv) (hn1.later hbv) hp1 (HSZ.out _ (List.getElem_mem hkl)).1 (HSZ.out _ (List.getElem_mem hkl)).2)
   have HXV := Lib.hid (hx.later hbv)
   have HAV := Lib.hid (act11_new wr l[k].kd l[k].nm l[k].hs l[k].is_)
   have x0 := HXV.out.c0
   have x1 := HXV.out.c1
   have xl := hx.lt
   have av0 := HAV.out.c0
   have av1 := HAV.out.c1
   have av2 := HAV.out.c2
   have av3 := HAV.out.c3
   clear hc hb ho hx hr1 hn1 hp1 hgd hbv HW HAV
   generalize l[k].kd = kd at *
   generalize l[k].nm = nm at *
   generalize l[k].hs = hs at *
   generalize l[k].is_ = is_ at *
   generalize List.length R = nR at *
   generalize List.length (names10 S0) = nN at *
   clear hkl
   go_wp2_with fail
   with_reducible refine HDO.out.mono ?_
   rintro e w5 ⟨A5, L5, S5, R5, v1, v2, rfl, ho5, hg5, hr5, hn5, hp5, hk5⟩
   obtain ⟨a5, c5, rfl⟩ := hr5.rw.us.shape
   obtain ⟨a6, c6, rfl⟩ := hn5.shape
   have hx5 := HXV.out.keeps11 hk5
   have r0 := hx5.c0
   have r1 := hx5.c1
   have rf0 := hx5.f0
   have rf1 := hx5.f1
   have HLN : Hid (Loop11 w2 D P M G Wb (k + 1) ((w5.setCell ⟨Wb, 0, none⟩ (.slice a5 R5.length c5)).setCell ⟨Wb, 1, none⟩ (.slice a6 (names10 S5).length c6))) := loop11_next HXV.out HZB.out hk5 ho5 hg5 hr5 hn5 hp5

   have HSM : Hid (Calls Tryz.prog 11 #[.pointer (some ⟨D, 0, none⟩), .agg #[.slice a5 R5.length c5, .slice a6 (names10 S5).length c6]] ((w5.setCell ⟨Wb, 0, none⟩ (.slice a5 R5.length c5)).setCell ⟨Wb, 1, none⟩ (.slice a6 (names10 S5).length c6)) (Tells5 true ((w5.setCell ⟨Wb, 0, none⟩ (.slice a5 R5.length c5)).setCell ⟨Wb, 1, none⟩ (.slice a6 (names10 S5).length c6)))) := by
    have hkg : KeepD11 w5 ((w5.setCell ⟨Wb, 0, none⟩ (.slice a5 R5.length c5)).setCell ⟨Wb, 1, none⟩ (.slice a6 (names10 S5).length c6)) := (hx5.keep 0 _).trans ((hx5.set0 _).keep 1 _)
    exact lsame11_calls R5 _ _ ((ho5.cell11 hx5 HZB.out _).cell11 (hx5.set0 _) HZB.out _) hg5 (hr5.keepD11 hkg) (hn5.keepD11 hkg) hp5
   have hx6 := (hx5.set0 (.slice a5 R5.length c5)).set1 (.slice a6 (names10 S5).length c6)
   have q0 := hx6.c0
   have q1 := hx6.c1
   clear ho5 hg5 hr5 hn5 hp5 hk5 hx5 hx6 HXV HDO x0 x1 xl c0 c1 c2 c3 av0 av1 av2 av3
   generalize List.length R5 = nR5 at *
   generalize List.length (names10 S5) = nN5 at *
   go_wp2_with fail
   with_reducible refine HSM.out.mono ?_
   rintro e w7 ⟨rfl, hb7⟩
   have HL7 := Lib.hid (loop11_later HLN.out hb7)
   clear hb7 HSM HLN r0 r1 rf0 rf1 q0 q1
   go_wp2
   go_roundg (n - (k + 1))
   case measure => omega
   case rel => exact ⟨k + 1, by omega, by omega, by go_num, HL7⟩
  ·
   have hltz : ¬ (k : Int) < (n : Int) := by omega
   have HBE := Lib.hid (below_next HB2.out (LoopFacts11 HW.out))
   clear HW
   go_wp2
   go_ret
   exact ⟨rfl, HBE.out⟩
end Go.Proofs.YthlgmkfofebbfaaGreatDoor


namespace Go.Proofs.YthlgmkfofebbfaaGreatDoor.newerPlays
open Go.ChangeShapes Go.WideShapes Go.ChangeAt Go.RowKit
set_option linter.unusedVariables false

theorem own : ownKnob Tryz.prog.godebug = none := by kernel_rfl
theorem laidOut : laidOutB Tryz.prog = true := by kernel_rfl

theorem walk (w : World) (hm : Len5 w) (a0 : Option Addr) (len0 cap0 : Nat) (l0 : List ActN) (s0 : IsActsN w a0 len0 l0) :
  Calls Tryz.prog 3 #[.slice a0 len0 cap0] w fun e w' => e = .returned (.bool true) ∧ Below w.heap.size w w' := by
 obtain ⟨h1, h2, h3, h4⟩ := s0
 exact plays11_walk a0 cap0 len0 l0 w hm h1 (by omega) h3

set_option maxRecDepth 100000 in
theorem lifted (os : Os) (started : os.Started) (H : Type) (enc : TypeId × Value → H) :
  ReturnsInHanded {} Tryz.checked os 3 .any (fun w args => (Rows.newerPlaysSpec.pre enc Tryz.prog Tryz.f3 Rows.newerPlaysRow.domain false w args ∧ laidMetH Tryz.prog Rows.newerPlaysRow.laid w) ∧ sizedMet enc Tryz.prog Tryz.f3 (OpenSpec.ofChange Rows.newerPlaysSpec) false w args)
   (Rows.newerPlaysSpec.post enc Tryz.prog Tryz.f3 false true false false) := by
 refine returns_laid (C := Tryz.checked) (X := fun w _ => laidMetH Tryz.prog Rows.newerPlaysRow.laid w) own started (by kernel_rfl) Tryz.func3
  (ChangeSpec.witness_shaped (enc := enc) (C := Tryz.checked) (os := os) (X := fun w _ => laidMetH Tryz.prog Rows.newerPlaysRow.laid w) false (World.laidAll Tryz.prog os Rows.newerPlaysRow.laid) #[.slice none 0 0] 8 (World.laidAll_os _ _ _)
   (World.shaped_of_ZipB (by kernel_rfl) (by kernel_rfl)) (by kernel_rfl) (by kernel_rfl) (by kernel_rfl)
   (by rw [MakeChecks.laidMetH_plain _ _ _ (by kernel_rfl)]; exact laidMet_laidAll _ (by kernel_rfl) (by kernel_rfl))) ?_
 intro W base args ds gs before hval0 hW hsh
 have hval : ∀ (j : Nat) t v, Tryz.f3.params[j]? = some t → args[j]? = some v → Value.okWide Tryz.prog W .any base t v := hval0
 have hW' := hW
 obtain ⟨p, q, hA0, hV, rfl, hfz, hnd⟩ := hW
 have hA : DataW.TrodAll enc Tryz.prog W 0 (fun _ => true) true Tryz.f3.params.toList args.toList ds p := hA0
 rw [Tryz.params3] at hA hval
 obtain ⟨v0, vs0, d0, ds0, p0, q0, hargs, rfl, rfl, h0, r0⟩ := trodAll_cons hA
 obtain ⟨rfl, rfl, rfl⟩ := trodAll_nil r0
 obtain rfl : args = #[v0] := by cases args; simp_all
 obtain ⟨rfl, rfl⟩ := trodVars_none hV
 obtain ⟨a0, len0, cap0, rfl⟩ := okWide_slice Tryz.underlying22 (hval 0 22 v0 rfl rfl)
 have lt0 : ∀ x ∈ p0, x.block < W.heap.size := by obtain ⟨m, hm⟩ := h0; exact DataW.trod_lt m _ _ _ hm
 obtain ⟨l0, s0⟩ := actns_of h0
 clear hA0 hval0
 refine (walk W (len5_of hsh) a0 len0 cap0 l0 s0).mono fun e W' ⟨he, bel⟩ => ?_
 subst he
 exact ⟨_, rfl, _, _, _, [], _, [], hW', trodAll_mk1 (shut_bool Tryz.underlying4 _), (trodAll_cons_mk (Below.trod laidOut (by kernel_rfl) (of_decide_eq_true (by kernel_rfl)) h0 bel lt0) trodAll_mk0), rfl, bel.frame _, fun h => by cases h⟩

theorem row_holds : Rows.NewerPlaysSaid :=
 OpenClaim.holds_of_wide 3 Tryz.f3 rfl rfl rfl rfl rfl rfl rfl ⟨rfl, rfl, rfl, rfl, rfl⟩ rfl rfl rfl rfl rfl (by kernel_rfl) Tryz.func3 (by kernel_rfl)
  (of_decide_eq_true (by kernel_rfl)) (by unfold Func.isWrapper; first | (rw [if_pos (by decide +kernel)]; kernel_rfl) | (rw [if_neg (by decide +kernel)]; exact ⟨rfl, rfl⟩))
  (fun os started H enc _ => lifted os started H enc)

theorem proved : Rows.NewerPlaysCardSaid :=
 Claim7.holds_tied_plain_at .later [] Rows.newerPlaysCard.laidKinds true Rows.newerPlaysCard.stood.harness Rows.newerPlaysCard.stood.looks row_holds (fun _ h => by cases h) (by kernel_rfl) (fun _ h => by cases h) newerPlays_row_tie rfl ⟨rfl, rfl⟩ (by kernel_rfl) rfl
  (fun f fn hf hfn => by
   obtain rfl : f = 3 := Option.some.inj ((show Tryz.prog.funcNamed Rows.newerPlaysRow.func = some 3 by kernel_rfl).symm.trans hf) |>.symm
   obtain rfl : fn = Tryz.f3 := (Option.some.inj (Tryz.func3.symm.trans hfn)).symm
   exact ⟨by kernel_rfl, fun j t ht => by
    rw [Tryz.params3] at ht
    have hm : t ∈ [22] := by simpa using Array.mem_of_getElem? ht
    have hall : ([22].all fun u => !Tryz.prog.wantsStandIn u) = true := by kernel_rfl
    exact (show Tryz.prog.wantsStandIn t = false by simpa using List.all_eq_true.1 hall t hm)⟩)
  (by kernel_rfl)
end Go.Proofs.YthlgmkfofebbfaaGreatDoor.newerPlays
