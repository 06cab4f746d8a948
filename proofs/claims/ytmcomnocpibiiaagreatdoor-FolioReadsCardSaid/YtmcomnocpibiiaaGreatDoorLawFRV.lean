/-
  What this law alone needs, the law walked, and its statement.
  Conditions: each theorem's own.
-/
import Derived.Test.YtmcomnocpibiiaaGreatDoorRows
import Derived.Test.YtmcomnocpibiiaaGreatDoorCards
import Derived.Test.YtmcomnocpibiiaaGreatDoorTie
import Derived.Test.YtmcomnocpibiiaaGreatDoorFolRBA
import Derived.Test.YtmcomnocpibiiaaGreatDoorFolRBB
import Derived.Test.YtmcomnocpibiiaaGreatDoorFolRBC
import Derived.Test.YtmcomnocpibiiaaGreatDoorFolRBD
import Derived.Test.YtmcomnocpibiiaaGreatDoorFolRBE
import Derived.Test.YtmcomnocpibiiaaGreatDoorFolRBF
import Derived.Test.YtmcomnocpibiiaaGreatDoorFolRBG
import Derived.Test.YtmcomnocpibiiaaGreatDoorFolRBH
import Derived.Test.YtmcomnocpibiiaaGreatDoorFolRBI
namespace Go.Proofs.YtmcomnocpibiiaaGreatDoor
open Go.RowKit Go.Maps Go.Sort Go.Shelf

theorem St11.of_nrm12 {A : Acc11} {L : Row7} {S : Grs10} {l l2 : List Us} {G : List ByteArray} {k : Nat} (h : St11 A L S l G k) (e : l2.map nrm11 = l) : St11 A L S l2 G k := by
 subst e
 unfold St11 at h ⊢
 rw [pl_nrm11, List.length_map] at h
 exact h
def YFr12 (A0 : Option Addr) (len c0 D b0 : Nat) (sv gv : Value) (bl : List UInt8) : Nat → Value → World → Prop
 | 0, v, _ => v = .pointer (some ⟨D, 0, none⟩)
 | 1, v, _ => v = .bool true
 | 2, v, _ => v = .bool true
 | 3, v, _ => v = .pointer (some ⟨D, 0, none⟩)
 | 4, v, _ => v = .agg #[sv, gv]
 | 5, v, _ => v = .bool true
 | 6, v, _ => v = .bool true
 | 7, v, _ => v = .bool true
 | 8, v, _ => v = .pointer (some ⟨D, 0, none⟩)
 | 9, v, W => Rd W v bl
 | 10, v, _ => v = .string ⟨bl.toArray⟩
 | 11, v, _ => v = .slice A0 len c0
 | 12, v, _ => v = .string ⟨bl.toArray⟩
 | 13, v, _ => v = .bool true
 | 14, v, _ => v = .bool true
 | _, v, _ => v = .bool true
theorem YFr12_keep {A0 : Option Addr} {len c0 D b0 : Nat} {sv gv : Value} {bl : List UInt8} {W W' : World} (hb : Below W.heap.size W W') (j : Nat) (z : Value) (h : YFr12 A0 len c0 D b0 sv gv bl j z W) : YFr12 A0 len c0 D b0 sv gv bl j z W' := by
 match j, h with
 | 0, h => exact h
 | 1, h => exact h
 | 2, h => exact h
 | 3, h => exact h
 | 4, h => exact h
 | 5, h => exact h
 | 6, h => exact h
 | 7, h => exact h
 | 8, h => exact h
 | 9, h => exact Rd.still h (Turns.of_below hb _)
 | 10, h => exact h
 | 11, h => exact h
 | 12, h => exact h
 | 13, h => exact h
 | 14, h => exact h
 | _ + 15, h => exact h

set_option maxRecDepth 100000 in
set_option maxHeartbeats 8000000 in
theorem freads12_walk (A0 : Option Addr) (len c0 : Nat) (bl : List UInt8) (w : World) (hlen : len = bl.length) (hmax : bl.length ≤ 9223372036854775807) (hrd : Rd w (.slice A0 len c0) bl) (hm : Len5 w) :
  Calls Tryz.prog 8 #[.slice A0 len c0] w (Tells5 true w) := by
 have hnot : ∀ (x : Bool) (w : World), (Op.unary .not (.bool x)).run Tryz.prog w = .ok (.bool (!x)) w := fun _ _ => rfl
 have HV : Hid (∀ W, Below w.heap.size w W → Calls Tryz.prog 32 #[] W (Tells5 true W)) := fun W hb => lives12_calls W (hm.later hb)
 obtain ⟨i0, hi, hz0, hz1, hz2⟩ := info_parts infoByte
 have HI := Lib.hid hi
 have HZ0 := Lib.hid hz0
 have HZ1 := Lib.hid hz1
 have HZ2 := Lib.hid hz2
 have HRd := Lib.hid hrd
 have HM := Lib.hid hm
 have HL := Lib.hid hlen
 have HB0 := Lib.hid (Below.refl w.heap.size w)
 have hmx : len ≤ 9223372036854775807 := by omega
 clear hrd hm hlen hmax hi hz0 hz1 hz2
 go_enter Tryz.func8, Tryz.ntmps8
 go_wp2_with fail
 with_reducible refine (HV.out w HB0.out).mono ?_
 rintro e w1 ⟨rfl, hb⟩
 have HB1 := Lib.hid (below_next HB0.out hb)
 clear hb HB0
 by_cases h6 : 900 < len
 ·
  have z6 : (len : Int) > 900 := by omega
  go_wp2_with fail
  with_reducible refine (HV.out w1 HB1.out).mono ?_
  rintro e w2 ⟨rfl, hb⟩
  have HB2 := Lib.hid (below_next HB1.out hb)
  clear hb
  go_wp2
  go_ret
  exact ⟨rfl, HB2.out⟩
 have z6 : ¬ (len : Int) > 900 := by omega
 clear HV
 have hsrc : Src Tryz.prog 1 66 (.slice A0 len c0) len (cellsOf bl) (w1.alloc (.cells #[] 5)) := by
  have := (HRd.out.still (Turns.of_below (below_next HB1.out (below_alloc (Below.refl w1.heap.size w1) (.cells #[] 5))) _)).src (P := Tryz.prog) (t := 66) (e := 5) Tryz.underlying66
  rwa [← HL.out] at this
 have HSRC := Lib.hid hsrc
 have hmade : (w1.alloc (.cells #[] 5)).ownsRow 0 5 1 (.slice (some ⟨w1.heap.size, 0, none⟩) 0 0) 0 [] := World.ownsRow_made w1 #[] 0 (Nat.zero_le _) (Nat.zero_le _) rfl
 have HMD := Lib.hid hmade
 clear hsrc hmade
 go_wp2_with (at_builtin; refine wpList_append_src _ rfl (.tmp 16) (.tmp 17) 66 66 (by rfl) 5 i0 _ 1 1 Tryz.underlying66 HI.out HZ0.out HZ1.out HZ2.out rfl (.slice (some ⟨w1.heap.size, 0, none⟩) 0 0) 0 [] (by rfl) HMD.out (.slice A0 len c0) len (cellsOf bl) (by rfl) HSRC.out (by simp only [maxLen]; omega) (by omega) ?_; intro A2 c2 w2 ho2 hg2 ha2; rw [Nat.zero_add, List.nil_append] at ho2; rw [Nat.zero_add] at ha2 ⊢; have HO2 := Lib.hid ho2; have HG2 := Lib.hid hg2; clear ho2 hg2 ha2)
 have HB2 : Hid (Below w.heap.size w w2) := (below_next HB1.out (below_alloc (Below.refl w1.heap.size w1) (.cells #[] 5))).grown HG2.out (by have := HB1.out.size; simp; omega) (fun k hk => by have := HB1.out.size; simp [Value.ownBlock] at hk; omega)
 have HR2 : Hid (Rd w2 (.slice A2 len c2) bl) := Rd.of_own (by have := HO2.out; rwa [HL.out] at this ⊢)
 have HR2' := Lib.hid (HRd.out.still (Turns.of_below HB2.out _))
 have HRD := Lib.hid (fread12_calls _ bl w2 HR2.out (by have := HL.out; omega) (HM.out.later HB2.out))
 have HRR : Hid (∀ W, Calls Tryz.prog 39 #[.string ⟨bl.toArray⟩] W (RRead12 W (read12 bl))) := fun W => by
  rw [read12_doc]
  exact rread12_calls bl W (by have := HL.out; omega)
 have HGOT : Hid ((read12 bl).1 = 0 → ofD11 (read12 bl).2.1 (read12 bl).2.2 = 0 ∧ folB (read12 bl).2.1 (read12 bl).2.2 = bl) := fun h => ⟨(read12_got h).2.1, (read12_got h).2.2⟩
 clear HMD HSRC HO2 HG2 HB1 HRd HI HZ0 HZ1 HZ2
 generalize read12 bl = g at *
 obtain ⟨er, l, G⟩ := g
 dsimp only at *
 go_wp2_with fail
 with_reducible refine HRD.out.mono ?_
 rintro e w3 h3
 clear HRD
 have hcase : ∃ dv, e = .returned (.tuple #[dv, .int .i64 er]) ∧ Below w2.heap.size w2 w3 ∧ (er ≠ 0 → dv = .pointer none) ∧ (er = 0 → ∃ D P M Gr A L S k, dv = .pointer (some ⟨D, 0, none⟩) ∧ Own11 w2 w3 D P M Gr A L S ∧ St11 A L S l G k ∧ k ≤ 200) := by
  rcases h3 with ⟨hne, he, hb⟩ | ⟨h0, D, P, M, Gr, A, L, S, k, he, ho, hs, hk⟩
  ·
   exact ⟨_, he, hb, fun _ => rfl, fun h => absurd h hne⟩
  ·
   dsimp only at h0
   subst h0
   exact ⟨_, he, ho.below, fun h => absurd rfl h, fun _ => ⟨D, P, M, Gr, A, L, S, k, rfl, ho, hs, hk⟩⟩
 clear h3
 obtain ⟨dv, rfl, hb3, hd1, hd2⟩ := hcase
 have HB3 := Lib.hid (below_next HB2.out hb3)
 have HR3 := Lib.hid (HR2.out.still (Turns.of_below hb3 _))
 have HR3' := Lib.hid (HR2'.out.still (Turns.of_below hb3 _))
 have HD1 := Lib.hid hd1
 have HD2 := Lib.hid hd2
 have hs3 := HR3'.out.string (P := Tryz.prog) (src := 66) (dst := 9) Tryz.underlying66 Tryz.underlying5 Tryz.underlying9
 clear hb3 hd1 hd2 HB2 HR2 HR2'
 go_wp2_with fail
 with_reducible refine (HRR.out w3).mono ?_
 rintro e w4 ⟨⟨Al, Ag, nl, ng, cl, cg, rfl, hu⟩, hb4⟩
 have HU := Lib.hid hu
 have HB4 := Lib.hid hb4
 have HB4' := Lib.hid (below_next HB3.out hb4)
 have hbx := below_alloc (Below.refl w4.heap.size w4) (.cells #[.slice Al nl cl, .slice Ag ng cg] TD11)
 have HB5 := Lib.hid (below_next HB4'.out hbx)
 have HB45 := Lib.hid (below_next HB4.out hbx)
 have HBX := Lib.hid hbx
 have HR4 := Lib.hid (((HR3.out.still (Turns.of_below hb4 _))).still (Turns.of_below hbx _))
 have HR4' := Lib.hid ((HR3'.out.still (Turns.of_below hb4 _)).still (Turns.of_below hbx _))
 have hs4 := HR4.out.string (P := Tryz.prog) (src := 66) (dst := 9) Tryz.underlying66 Tryz.underlying5 Tryz.underlying9
 have hs4' := HR4'.out.string (P := Tryz.prog) (src := 66) (dst := 9) Tryz.underlying66 Tryz.underlying5 Tryz.underlying9
 clear hu hb4 HRR HB3 HR3 HR3' hs3 hbx
 by_cases h0 : er = 0
 case neg =>
  have hz : (er != 0) = true := by simpa using h0
  obtain rfl := HD1.out h0
  clear HD1 HD2 HU HGOT
  go_wp2
  go_ret
  exact ⟨rfl, HB5.out⟩
 subst h0
 obtain ⟨D, P, M, Gr, A, L, S, k, rfl, hown, hst, hk⟩ := HD2.out rfl
 obtain ⟨l2, hnm, hnl, hrl, hok, hng, hrg⟩ := HU.out rfl
 obtain ⟨hof, hbs⟩ := HGOT.out rfl
 dsimp only at hnm hnl hrl hok hng hrg hof hbs
 have hown5 := (hown.later HB4.out).later HBX.out
 have HY : Hid (∀ W, Below (w4.alloc (.cells #[.slice Al nl cl, .slice Ag ng cg] TD11)).heap.size (w4.alloc (.cells #[.slice Al nl cl, .slice Ag ng cg] TD11)) W → Calls Tryz.prog 34 #[.pointer (some ⟨D, 0, none⟩)] W (Told6 W bl)) := fun W hb => by
  have := fbytes12_calls (hown5.later hb) hst.1.1 (HM.out.later (below_next HB5.out hb))
  rwa [hst.1.2.1, hst.1.2.2, folT_of12, hbs] at this
 have HSM : Hid (∀ W, Below (w4.alloc (.cells #[.slice Al nl cl, .slice Ag ng cg] TD11)).heap.size (w4.alloc (.cells #[.slice Al nl cl, .slice Ag ng cg] TD11)) W → Calls Tryz.prog 15 #[.pointer (some ⟨D, 0, none⟩), .agg #[.slice Al nl cl, .slice Ag ng cg]] W (Tells5 true W)) := fun W hb =>
  lsameV11_calls Al Ag cl cg nl ng (hown5.later hb) (hst.of_nrm12 hnm) hnl (hrl.later (below_next HBX.out hb)) (fun u hu => (hok u hu).below (below_next HBX.out hb)) hng (by rw [hng]; have := (may12 hof).gfew; omega) (hrg.below (below_next HBX.out hb))
 have K0 : (w4.alloc (.cells #[.slice Al nl cl, .slice Ag ng cg] TD11)).cell? ⟨w4.heap.size, 0, none⟩ = some (.slice Al nl cl) := by rw [World.cell?_alloc_at _ _ _ _ rfl]; rfl
 have K1 : (w4.alloc (.cells #[.slice Al nl cl, .slice Ag ng cg] TD11)).cell? ⟨w4.heap.size, 1, none⟩ = some (.slice Ag ng cg) := by rw [World.cell?_alloc_at _ _ _ _ rfl]; rfl
 have LT : w4.heap.size < (w4.alloc (.cells #[.slice Al nl cl, .slice Ag ng cg] TD11)).heap.size := by simp
 clear hown hown5 hst hrl hok hrg hof hbs hnm hnl hng hk HD1 HD2 HU HGOT HB4 HBX HR4 HM
 go_wp2_with fail
 generalize w4.alloc (.cells #[.slice Al nl cl, .slice Ag ng cg] TD11) = w5 at *
 refine wp_region_inv (by kernel_rfl) (fun W => Below w5.heap.size w5 W) (YFr12 A0 len c0 D w4.heap.size (.slice Al nl cl) (.slice Ag ng cg) bl) ?F ?hF (by kernel_rfl) (by kernel_rfl) (below_drew (Below.refl _ _)) ?step ?fin
 case hF =>
  intro x
  simp only [List.map_cons, List.map_nil, putL, Act.put, List.setIfInBounds_toArray, List.set_cons_zero, List.set_cons_succ, Nat.zero_add, Nat.reduceAdd]
  exact rfl
 case step =>
  refine ⟨?_, ?_, ?_, ?_, ?_, ?_, ?_, ?_, ?_, ?_, ?_, ?_, ?_, ?_, ?_, ?_, trivial⟩
  all_goals intro x W hW hdep K hK
  ·
   clear hdep
   go_simp
   exact hK _ _ rfl hW (fun _ _ h => h)
  ·
   have h0 : x 0 = _ := hdep 0 rfl
   clear hdep
   simp only [h0] at hK
   go_simp
   exact hK _ _ rfl hW (fun _ _ h => h)
  ·
   have h1 : x 1 = _ := hdep 1 rfl
   clear hdep
   simp only [h1] at hK
   go_simp
   exact hK _ _ rfl hW (fun _ _ h => h)
  ·
   have h2 : x 2 = _ := hdep 2 rfl
   clear hdep
   simp only [h2] at hK
   go_simp
   exact hK _ _ rfl hW (fun _ _ h => h)
  ·
   have h2 : x 2 = _ := hdep 2 rfl
   have k0 := (hW.cell (p := ⟨w4.heap.size, 0, none⟩) LT).trans K0
   have k1 := (hW.cell (p := ⟨w4.heap.size, 1, none⟩) LT).trans K1
   clear hdep
   simp only [h2] at hK
   go_simp
   exact hK _ _ rfl hW (fun _ _ h => h)
  ·
   have h2 : x 2 = _ := hdep 2 rfl
   have h3 : x 3 = _ := hdep 3 rfl
   have h4 : x 4 = _ := hdep 4 rfl
   clear hdep
   simp only [h2, h3, h4] at hK
   go_simp
   refine (HSM.out W hW).mono ?_
   rintro e W' ⟨rfl, hb⟩
   exact hK _ _ rfl (below_next hW hb) (fun j z h => YFr12_keep hb j z h)
  ·
   have h2 : x 2 = _ := hdep 2 rfl
   have h5 : x 5 = _ := hdep 5 rfl
   clear hdep
   simp only [h2, h5] at hK
   go_simp
   exact hK _ _ rfl hW (fun _ _ h => h)
  ·
   have h6 : x 6 = _ := hdep 6 rfl
   clear hdep
   simp only [h6] at hK
   go_simp
   exact hK _ _ rfl hW (fun _ _ h => h)
  ·
   have h7 : x 7 = _ := hdep 7 rfl
   clear hdep
   simp only [h7] at hK
   go_simp
   exact hK _ _ rfl hW (fun _ _ h => h)
  ·
   have h7 : x 7 = _ := hdep 7 rfl
   have h8 : x 8 = _ := hdep 8 rfl
   clear hdep
   simp only [h7, h8] at hK
   go_simp
   refine (HY.out W hW).mono ?_
   rintro e W' ⟨v', rfl, ho, _, hb⟩
   exact hK _ _ (Rd.of_own ho) (below_next hW hb) (fun j z h => YFr12_keep hb j z h)
  ·
   have h7 : x 7 = _ := hdep 7 rfl
   have r9 : Rd W (x 9) bl := hdep 9 rfl
   obtain ⟨A9, c9, h9⟩ := r9.shape
   rw [h9] at r9
   have hs := r9.string (P := Tryz.prog) (src := 66) (dst := 9) Tryz.underlying66 Tryz.underlying5 Tryz.underlying9
   clear hdep
   simp only [h7, h9] at hK
   go_simp
   exact hK _ _ rfl hW (fun _ _ h => h)
  ·
   have h7 : x 7 = _ := hdep 7 rfl
   clear hdep
   simp only [h7] at hK
   go_simp
   exact hK _ _ rfl hW (fun _ _ h => h)
  ·
   have h7 : x 7 = _ := hdep 7 rfl
   have h11 : x 11 = _ := hdep 11 rfl
   have hs := (HR4'.out.still (Turns.of_below hW _)).string (P := Tryz.prog) (src := 66) (dst := 9) Tryz.underlying66 Tryz.underlying5 Tryz.underlying9
   clear hdep
   simp only [h7, h11] at hK
   go_simp
   exact hK _ _ rfl hW (fun _ _ h => h)
  ·
   have h7 : x 7 = _ := hdep 7 rfl
   have h10 : x 10 = _ := hdep 10 rfl
   have h12 : x 12 = _ := hdep 12 rfl
   clear hdep
   simp only [h7, h10, h12] at hK
   go_simp
   exact hK _ _ rfl hW (fun _ _ h => h)
  ·
   have h7 : x 7 = _ := hdep 7 rfl
   have h13 : x 13 = _ := hdep 13 rfl
   clear hdep
   simp only [h7, h13] at hK
   go_simp
   exact hK _ _ rfl hW (fun _ _ h => h)
  ·
   have h14 : x 14 = _ := hdep 14 rfl
   clear hdep
   simp only [h14] at hK
   go_simp
   exact hK _ _ rfl hW (fun _ _ h => h)
 case fin =>
  intro x W hW hY
  have h15 : x 15 = .bool true := hY 15 (by decide)
  have HF := Lib.hid (below_next HB5.out hW)
  clear hY hW
  rw [h15]
  go_wp2
  go_ret
  exact ⟨rfl, HF.out⟩
end Go.Proofs.YtmcomnocpibiiaaGreatDoor


namespace Go.Proofs.YtmcomnocpibiiaaGreatDoor.folioReads
open Go.ChangeShapes Go.WideShapes Go.ChangeAt Go.RowKit
set_option linter.unusedVariables false

theorem own : ownKnob Tryz.prog.godebug = none := by kernel_rfl
theorem laidOut : laidOutB Tryz.prog = true := by kernel_rfl

theorem walk (w : World) (hm : Len5 w) (a0 : Option Addr) (len0 cap0 : Nat) (bl0 : List UInt8) (s0 : IsBytes w a0 len0 cap0 bl0) :
  Calls Tryz.prog 8 #[.slice a0 len0 cap0] w fun e w' => e = .returned (.bool true) ∧ Below w.heap.size w w' := by
 exact freads12_walk a0 len0 cap0 bl0 w s0.1 s0.2.1 s0.2.2 hm

set_option maxRecDepth 100000 in
theorem lifted (os : Os) (started : os.Started) (H : Type) (enc : TypeId × Value → H) :
  ReturnsInHanded {} Tryz.checked os 8 .any (fun w args => (Rows.folioReadsSpec.pre enc Tryz.prog Tryz.f8 Rows.folioReadsRow.domain false w args ∧ laidMetH Tryz.prog Rows.folioReadsRow.laid w) ∧ sizedMet enc Tryz.prog Tryz.f8 (OpenSpec.ofChange Rows.folioReadsSpec) false w args)
   (Rows.folioReadsSpec.post enc Tryz.prog Tryz.f8 false true false false) := by
 refine returns_laid (C := Tryz.checked) (X := fun w _ => laidMetH Tryz.prog Rows.folioReadsRow.laid w) own started (by kernel_rfl) Tryz.func8
  (ChangeSpec.witness_shaped (enc := enc) (C := Tryz.checked) (os := os) (X := fun w _ => laidMetH Tryz.prog Rows.folioReadsRow.laid w) false (World.laidAll Tryz.prog os Rows.folioReadsRow.laid) #[.slice none 0 0] 8 (World.laidAll_os _ _ _)
   (World.shaped_of_ZipB (by kernel_rfl) (by kernel_rfl)) (by kernel_rfl) (by kernel_rfl) (by kernel_rfl)
   (by rw [MakeChecks.laidMetH_plain _ _ _ (by kernel_rfl)]; exact laidMet_laidAll _ (by kernel_rfl) (by kernel_rfl))) ?_
 intro W base args ds gs before hval0 hW hsh
 have hval : ∀ (j : Nat) t v, Tryz.f8.params[j]? = some t → args[j]? = some v → Value.okWide Tryz.prog W .any base t v := hval0
 have hW' := hW
 obtain ⟨p, q, hA0, hV, rfl, hfz, hnd⟩ := hW
 have hA : DataW.TrodAll enc Tryz.prog W 0 (fun _ => true) true Tryz.f8.params.toList args.toList ds p := hA0
 rw [Tryz.params8] at hA hval
 obtain ⟨v0, vs0, d0, ds0, p0, q0, hargs, rfl, rfl, h0, r0⟩ := trodAll_cons hA
 obtain ⟨rfl, rfl, rfl⟩ := trodAll_nil r0
 obtain rfl : args = #[v0] := by cases args; simp_all
 obtain ⟨rfl, rfl⟩ := trodVars_none hV
 obtain ⟨a0, len0, cap0, rfl⟩ := okWide_slice Tryz.underlying66 (hval 0 66 v0 rfl rfl)
 have lt0 : ∀ x ∈ p0, x.block < W.heap.size := by obtain ⟨m, hm⟩ := h0; exact DataW.trod_lt m _ _ _ hm
 obtain ⟨bl0, s0⟩ := bytes_of h0
 clear hA0 hval0
 refine (walk W (len5_of hsh) a0 len0 cap0 bl0 s0).mono fun e W' ⟨he, bel⟩ => ?_
 subst he
 exact ⟨_, rfl, _, _, _, [], _, [], hW', trodAll_mk1 (shut_bool Tryz.underlying4 _), (trodAll_cons_mk (Below.trod laidOut (by kernel_rfl) (of_decide_eq_true (by kernel_rfl)) h0 bel lt0) trodAll_mk0), rfl, bel.frame _, fun h => by cases h⟩

theorem row_holds : Rows.FolioReadsSaid :=
 OpenClaim.holds_of_wide 8 Tryz.f8 rfl rfl rfl rfl rfl rfl rfl ⟨rfl, rfl, rfl, rfl, rfl⟩ rfl rfl rfl rfl rfl (by kernel_rfl) Tryz.func8 (by kernel_rfl)
  (of_decide_eq_true (by kernel_rfl)) (by unfold Func.isWrapper; first | (rw [if_pos (by decide +kernel)]; kernel_rfl) | (rw [if_neg (by decide +kernel)]; exact ⟨rfl, rfl⟩))
  (fun os started H enc _ => lifted os started H enc)

theorem proved : Rows.FolioReadsCardSaid :=
 Claim7.holds_tied_plain_at .later [] Rows.folioReadsCard.laidKinds true Rows.folioReadsCard.stood.harness Rows.folioReadsCard.stood.looks row_holds (fun _ h => by cases h) (by kernel_rfl) (fun _ h => by cases h) folioReads_row_tie rfl ⟨rfl, rfl⟩ (by kernel_rfl) rfl
  (fun f fn hf hfn => by
   obtain rfl : f = 8 := Option.some.inj ((show Tryz.prog.funcNamed Rows.folioReadsRow.func = some 8 by kernel_rfl).symm.trans hf) |>.symm
   obtain rfl : fn = Tryz.f8 := (Option.some.inj (Tryz.func8.symm.trans hfn)).symm
   exact ⟨by kernel_rfl, fun j t ht => by
    rw [Tryz.params8] at ht
    have hm : t ∈ [66] := by simpa using Array.mem_of_getElem? ht
    have hall : ([66].all fun u => !Tryz.prog.wantsStandIn u) = true := by kernel_rfl
    exact (show Tryz.prog.wantsStandIn t = false by simpa using List.all_eq_true.1 hall t hm)⟩)
  (by kernel_rfl)
end Go.Proofs.YtmcomnocpibiiaaGreatDoor.folioReads
