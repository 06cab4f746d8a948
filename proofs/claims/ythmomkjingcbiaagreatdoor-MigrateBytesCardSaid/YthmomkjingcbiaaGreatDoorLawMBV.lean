/-
  What this law alone needs, the law walked, and its statement.
  Conditions: each theorem's own.
-/
import Derived.Test.YthmomkjingcbiaaGreatDoorCards
import Derived.Test.YthmomkjingcbiaaGreatDoorTie
import Derived.Test.YthmomkjingcbiaaGreatDoorMigBBK
set_option maxHeartbeats 16000000
namespace Go.Proofs.YthmomkjingcbiaaGreatDoor
open Go.RowKit Go.Maps Go.Sort Go.Shelf

set_option maxRecDepth 100000 in
theorem mbytes13_walk (A0:Option Addr) (len c0:Nat) (bl:List UInt8) (w:World) (hlen:len=bl.length) (hmax:bl.length≤9223372036854775807) (hrd:Rd w (.slice A0 len c0) bl) (hm:vm w) :
  Calls Tryz.prog 3 #[.slice A0 len c0] w (yt true w):=by
 have hnot:∀ (x:Bool) (w:World),(Op.unary .not (.bool x)).run Tryz.prog w=.ok (.bool (!x)) w:=fun _ _=>rfl
 have HV:Hid (∀ W,Below w.heap.size w W→Calls Tryz.prog 6 #[] W (yt true W)):=fun W hb=>lives13_calls W (hm.later hb)
 obtain ⟨i0,hi,hz0,hz1,hz2⟩:=info_parts XW
 have HI:=z8 hi
 have HZ0:=z8 hz0
 have HZ1:=z8 hz1
 have HZ2:=z8 hz2
 have HRd:=z8 hrd
 have HM:=z8 hm
 have HL:=z8 hlen
 have HB0:=z8 (Below.refl w.heap.size w)
 have hmx:len≤9223372036854775807:=by omega
 clear hrd hm hlen hmax hi hz0 hz1 hz2
 go_enter Tryz.func3,Tryz.ntmps3
 go_wp2_with fail
 with_reducible refine (HV.out w HB0.out).mono ?_
 rintro e w1 ⟨rfl,hb⟩
 have HB1:=z8 (z7 HB0.out hb)
 clear hb HB0
 by_cases h6:900<len
 ·
  have z6:(len:Int) > 900:=by omega
  go_wp2_with fail
  with_reducible refine (HV.out w1 HB1.out).mono ?_
  rintro e w2 ⟨rfl,hb⟩
  have HB2:=z8 (z7 HB1.out hb)
  clear hb
  go_wp2
  go_ret
  exact ⟨rfl,HB2.out⟩
 have z6:¬ (len:Int) > 900:=by omega
 clear HV
 have hsrc:Src Tryz.prog 1 22 (.slice A0 len c0) len (cellsOf bl) (w1.alloc (.cells #[] 5)):=by
  have:=(HRd.out.still (zb.of_below (z7 HB1.out (za (Below.refl w1.heap.size w1) (.cells #[] 5))) _)).src (P:=Tryz.prog) (t:=22) (e:=5) Tryz.underlying22
  rwa [← HL.out] at this
 have HSRC:=z8 hsrc
 have hmade:(w1.alloc (.cells #[] 5)).ownsRow 0 5 1 (.slice (some ⟨w1.heap.size,0,none⟩) 0 0) 0 []:=World.ownsRow_made w1 #[] 0 (Nat.zero_le _) (Nat.zero_le _) rfl
 have HMD:=z8 hmade
 clear hsrc hmade
 go_wp2_with (at_builtin; refine xe _ rfl (.tmp 18) (.tmp 19) 22 22 (by rfl) 5 i0 _ 1 1 Tryz.underlying22 HI.out HZ0.out HZ1.out HZ2.out rfl (.slice (some ⟨w1.heap.size,0,none⟩) 0 0) 0 [] (by rfl) HMD.out (.slice A0 len c0) len (cellsOf bl) (by rfl) HSRC.out (by simp only [maxLen]; omega) (by omega) ?_; intro A2 c2 w2 ho2 hg2 ha2; rw [Nat.zero_add,List.nil_append] at ho2; rw [Nat.zero_add] at ha2 ⊢; have HO2:=z8 ho2; have HG2:=z8 hg2; clear ho2 hg2 ha2)
 have HB2:Hid (Below w.heap.size w w2):=(z7 HB1.out (za (Below.refl w1.heap.size w1) (.cells #[] 5))).grown HG2.out (by have:=HB1.out.size; simp; omega) (fun k hk=>by have:=HB1.out.size; simp [Value.ownBlock] at hk; omega)
 have HR2:Hid (Rd w2 (.slice A2 len c2) bl):=Rd.of_own (by have:=HO2.out; rwa [HL.out] at this ⊢)
 have HR2':=z8 (HRd.out.still (zb.of_below HB2.out _))
 have HMB:=z8 (mbytes13_calls _ bl w2 HR2.out (.inl (by have:=HL.out; omega)) (HM.out.later HB2.out))
 have HRR:Hid (∀ W,Calls Tryz.prog 8 #[.string ⟨bl.toArray⟩] W (qE W (xN bl))):=fun W=>rbytes13_calls bl W (by have:=HL.out; omega)
 have HGA:Hid ((xN bl).1=0→xN (xN bl).2=(0,(xN bl).2)∧yr (xN bl).2=2∧(xN bl).2.length≤100000):=fun h=>by
  obtain ⟨a,b,c⟩:=mig_again13 h
  exact ⟨a,b,Nat.le_trans c (by have:=HL.out; omega)⟩
 clear HMD HSRC HO2 HG2 HB1 HRd HI HZ0 HZ1 HZ2
 generalize xN bl=g at *
 obtain ⟨er,out⟩:=g
 unfold jU qE at *
 dsimp only at *
 go_wp2_with fail
 with_reducible refine HMB.out.mono ?_
 rintro e w3 ⟨v,rfl,ho,_,hb3⟩
 obtain ⟨A3,c3,rfl⟩:=yD ho
 have HX3:Hid (Rd w3 (.slice A3 out.length c3) out):=Rd.of_own ho
 have HB3:=z8 (z7 HB2.out hb3)
 have HR3:=z8 (HR2.out.still (zb.of_below hb3 _))
 have HR3':=z8 (HR2'.out.still (zb.of_below hb3 _))
 have hs3:=HR3'.out.string (P:=Tryz.prog) (src:=22) (dst:=9) Tryz.underlying22 Tryz.underlying5 Tryz.underlying9
 clear hb3 ho HB2 HR2 HR2' HMB
 go_wp2_with fail
 with_reducible refine (HRR.out w3).mono ?_
 rintro e w4 ⟨rfl,hb4⟩
 have HB4:=z8 (z7 HB3.out hb4)
 have HX4:=z8 (HX3.out.still (zb.of_below hb4 _))
 have HR4:=z8 (HR3.out.still (zb.of_below hb4 _))
 have HR4':=z8 (HR3'.out.still (zb.of_below hb4 _))
 have hs4:=HR4.out.string (P:=Tryz.prog) (src:=22) (dst:=9) Tryz.underlying22 Tryz.underlying5 Tryz.underlying9
 have hs4':=HR4'.out.string (P:=Tryz.prog) (src:=22) (dst:=9) Tryz.underlying22 Tryz.underlying5 Tryz.underlying9
 have hx4:=HX4.out.string (P:=Tryz.prog) (src:=22) (dst:=9) Tryz.underlying22 Tryz.underlying5 Tryz.underlying9
 have hmk:mk6 out=⟨out.toArray⟩:=rfl
 rw [hmk]
 clear hb4 hs3 HB3 HR3 HR3' HRR HX3 hmk
 by_cases h0:er=0
 case neg =>
  have hz:(er != 0)=true:=by simpa using h0
  clear HGA
  go_wp2
  go_ret
  exact ⟨rfl,HB4.out⟩
 subst h0
 obtain ⟨hag,hsc,hlg⟩:=HGA.out rfl
 have HY:=mbytes13_calls _ out w4 HX4.out (.inr ⟨hsc,hlg⟩) (HM.out.later HB4.out)
 rw [hag] at HY
 have HYY:=z8 HY
 have HSC:Hid (∀ W,Below w4.heap.size w4 W→Calls Tryz.prog 9 #[.slice A3 out.length c3] W fun e w'=>e=.returned (.int .i64 2)∧w'=W):=fun W hb=>by
  have:=Zl _ out W (HX4.out.still (zb.of_below hb _))
  rw [hsc] at this
  exact this.mono fun e w' ⟨a,b⟩=>⟨a,b.symm⟩
 clear HY HGA HM hag hsc hlg
 go_wp2_with fail
 with_reducible refine HYY.out.mono ?_
 rintro e w5 ⟨v5,rfl,ho,_,hb5⟩
 obtain ⟨A5,c5,rfl⟩:=yD ho
 have hy5:=(Rd.of_own ho).string (P:=Tryz.prog) (src:=22) (dst:=9) Tryz.underlying22 Tryz.underlying5 Tryz.underlying9
 have hx5:=(HX4.out.still (zb.of_below hb5 (fun _=>False))).string (P:=Tryz.prog) (src:=22) (dst:=9) Tryz.underlying22 Tryz.underlying5 Tryz.underlying9
 have HB5:=z8 (z7 HB4.out hb5)
 have HS5:=z8 (HSC.out w5 hb5)
 clear ho hb5 hs4 hs4' hx4 HYY HX4 HR4 HR4' HSC HB4
 go_wp2_with fail
 with_reducible refine HS5.out.mono ?_
 rintro e w6 ⟨rfl,rfl⟩
 clear HS5
 go_wp2
 go_ret
 exact ⟨rfl,HB5.out⟩
end Go.Proofs.YthmomkjingcbiaaGreatDoor
namespace Go.Proofs.YthmomkjingcbiaaGreatDoor.migrateBytes
open Go.ChangeShapes Go.WideShapes Go.ChangeAt Go.RowKit
set_option linter.unusedVariables false

theorem own:ownKnob Tryz.prog.godebug=none:=by kernel_rfl
theorem laidOut:laidOutB Tryz.prog=true:=by kernel_rfl

theorem walk (w:World) (hm:vm w) (a0:Option Addr) (len0 cap0:Nat) (bl0:List UInt8) (s0:IsBytes w a0 len0 cap0 bl0) :
  Calls Tryz.prog 3 #[.slice a0 len0 cap0] w fun e w'=>e=.returned (.bool true)∧Below w.heap.size w w':=by
 exact mbytes13_walk a0 len0 cap0 bl0 w s0.1 s0.2.1 s0.2.2 hm

set_option maxRecDepth 100000 in
theorem lifted (os:Os) (started:os.Started) (H:Type) (enc:TypeId×Value→H) :
  ReturnsInHanded {} Tryz.checked os 3 .any (fun w args=>(Rows.migrateBytesSpec.pre enc Tryz.prog Tryz.f3 Rows.migrateBytesRow.domain false w args∧laidMetH Tryz.prog Rows.migrateBytesRow.laid w)∧sizedMet enc Tryz.prog Tryz.f3 (OpenSpec.ofChange Rows.migrateBytesSpec) false w args)
   (Rows.migrateBytesSpec.post enc Tryz.prog Tryz.f3 false true false false):=by
 refine returns_laid (C:=Tryz.checked) (X:=fun w _=>laidMetH Tryz.prog Rows.migrateBytesRow.laid w) own started (by kernel_rfl) Tryz.func3
  (ChangeSpec.witness_shaped (enc:=enc) (C:=Tryz.checked) (os:=os) (X:=fun w _=>laidMetH Tryz.prog Rows.migrateBytesRow.laid w) false (World.laidAll Tryz.prog os Rows.migrateBytesRow.laid) #[.slice none 0 0] 8 (World.laidAll_os _ _ _)
   (World.shaped_of_ZipB (by kernel_rfl) (by kernel_rfl)) (by kernel_rfl) (by kernel_rfl) (by kernel_rfl)
   (by rw [MakeChecks.laidMetH_plain _ _ _ (by kernel_rfl)]; exact laidMet_laidAll _ (by kernel_rfl) (by kernel_rfl))) ?_
 intro W base args ds gs before hval0 hW hsh
 have hval:∀ (j:Nat) t v,Tryz.f3.params[j]? = some t→args[j]? = some v→Value.okWide Tryz.prog W .any base t v:=hval0
 have hW':=hW
 obtain ⟨p,q,hA0,hV,rfl,hfz,hnd⟩:=hW
 have hA:DataW.TrodAll enc Tryz.prog W 0 (fun _=>true) true Tryz.f3.params.toList args.toList ds p:=hA0
 rw [Tryz.params3] at hA hval
 obtain ⟨v0,vs0,d0,ds0,p0,q0,hargs,rfl,rfl,h0,r0⟩:=trodAll_cons hA
 obtain ⟨rfl,rfl,rfl⟩:=trodAll_nil r0
 obtain rfl:args=#[v0]:=by cases args; simp_all
 obtain ⟨rfl,rfl⟩:=trodVars_none hV
 obtain ⟨a0,len0,cap0,rfl⟩:=okWide_slice Tryz.underlying22 (hval 0 22 v0 rfl rfl)
 have lt0:∀ x∈p0,x.block<W.heap.size:=by obtain ⟨m,hm⟩:=h0; exact DataW.trod_lt m _ _ _ hm
 obtain ⟨bl0,s0⟩:=bytes_of h0
 clear hA0 hval0
 refine (walk W (len5_of hsh) a0 len0 cap0 bl0 s0).mono fun e W' ⟨he,bel⟩=>?_
 subst he
 exact ⟨_,rfl,_,_,_,[],_,[],hW',trodAll_mk1 (shut_bool Tryz.underlying4 _),(trodAll_cons_mk (Below.trod laidOut (by kernel_rfl) (of_decide_eq_true (by kernel_rfl)) h0 bel lt0) trodAll_mk0),rfl,bel.frame _,fun h=>by cases h⟩

theorem row_holds:Rows.MigrateBytesSaid :=
 OpenClaim.holds_of_wide 3 Tryz.f3 rfl rfl rfl rfl rfl rfl rfl ⟨rfl,rfl,rfl,rfl,rfl⟩ rfl rfl rfl rfl rfl (by kernel_rfl) Tryz.func3 (by kernel_rfl)
  (of_decide_eq_true (by kernel_rfl)) (by unfold Func.isWrapper; first | (rw [if_pos (by decide +kernel)]; kernel_rfl) | (rw [if_neg (by decide +kernel)]; exact ⟨rfl,rfl⟩))
  (fun os started H enc _=>lifted os started H enc)

theorem proved:Rows.MigrateBytesCardSaid :=
 Claim7.holds_tied_plain_at .later [] Rows.migrateBytesCard.laidKinds true Rows.migrateBytesCard.stood.harness Rows.migrateBytesCard.stood.looks row_holds (fun _ h=>by cases h) (by kernel_rfl) (fun _ h=>by cases h) migrateBytes_row_tie rfl ⟨rfl,rfl⟩ (by kernel_rfl) rfl
  (fun f fn hf hfn=>by
   obtain rfl:f=3:=Option.some.inj ((show Tryz.prog.funcNamed Rows.migrateBytesRow.func=some 3 by kernel_rfl).symm.trans hf) |>.symm
   obtain rfl:fn=Tryz.f3:=(Option.some.inj (Tryz.func3.symm.trans hfn)).symm
   exact ⟨by kernel_rfl,fun j t ht=>by
    rw [Tryz.params3] at ht
    have hm:t∈[22]:=by simpa using Array.mem_of_getElem? ht
    have hall:([22].all fun u=>!Tryz.prog.wantsStandIn u)=true:=by kernel_rfl
    exact (show Tryz.prog.wantsStandIn t=false by simpa using List.all_eq_true.1 hall t hm)⟩)
  (by kernel_rfl)
end Go.Proofs.YthmomkjingcbiaaGreatDoor.migrateBytes
