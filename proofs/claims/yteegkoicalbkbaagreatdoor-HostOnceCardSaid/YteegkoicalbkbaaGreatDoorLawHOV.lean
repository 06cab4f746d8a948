/-
  What this law alone needs, the law walked, and its statement.
  Conditions: each theorem's own.
-/
import Derived.Test.YteegkoicalbkbaaGreatDoorHosOBL
set_option maxHeartbeats 16000000
set_option linter.unusedVariables false
namespace Go.Proofs.YteegkoicalbkbaaGreatDoor
open Go.RowKit
set_option linter.unusedVariables false

def YO9 (H D cl last:Nat) (X:Nat→P15):Nat→Value→World→Prop
 | 0,v,_=>v=.pointer (some ⟨H,0,none⟩)
 | 1,v,W=>∃ C T,v=.pointer (some ⟨C,0,none⟩)∧vH W (C+1) C T∧∀ i,i<8→(T i).p=X i
 | 2,v,_=>v=.pointer (some ⟨D,0,none⟩)
 | 3,v,_=>v=.int .u8 (cl:Int)
 | 4,v,_=>v=.int .u64 (last:Nat)
 | 5,v,_=>v=.int .u64 (last:Nat)
 | _,_,_=>True
theorem YO9_keep {H:Nat} {D:Nat} {cl:Nat} {last:Nat} {X:Nat→P15} {W W':World} (hb:Below W.heap.size W W') (j:Nat) (z:Value) (h:YO9 H D cl last X j z W):YO9 H D cl last X j z W':=by
 match j,h with
 | 0,h=>exact h
 | 1,h=>exact by obtain ⟨C,T,h1,h2,h3⟩:=h; exact ⟨C,T,h1,h2.later hb,h3⟩
 | 2,h=>exact h
 | 3,h=>exact h
 | 4,h=>exact h
 | 5,h=>exact h
 | _+6,h=>exact h

set_option maxRecDepth 100000 in
theorem ho17_walk (A0:Option Addr) (c n:Nat) (l:List Jx) (w:World) (hl:yc w) (h5:vY w) (hn:n=l.length) (hm:n≤9223372036854775807) (hr:RdR17 w A0 l) (ho:∀ t∈l,t.Ok) :
  Calls Tryz.prog 5 #[.slice A0 n c] w (zC (.bool true) w):=by
 have HV:Hid (∀ W,Below w.heap.size w W→Calls Tryz.prog 8 #[] W (zC (.bool true) W)):=fun W hW=>lives17_calls W (hl.later hW) (h5.later hW)
 have HF:Hid (∀ W,Below w.heap.size w W→Calls Tryz.prog 9 #[.slice A0 n c] W (zC (.bool (FL l)) W)):=fun W hW=>few17_calls A0 c n l W hn hm (hr.later hW)
 have HR:=za hr
 have HL:=za hn
 have HO:=za ho
 clear hr hn ho
 cases hq:FL l with
 | false =>
  rw [hq] at HF
  clear hl h5 hm hq HR HL HO
  go_enter Tryz.func5,Tryz.ntmps5
  go_wp2_with fail
  with_reducible refine (HV.out w (Below.refl _ _)).mono ?_
  rintro e w1 ⟨rfl,hb1⟩
  have HB1:=za hb1
  clear hb1
  go_wp2_with fail
  with_reducible refine (HF.out _ HB1.out).mono ?_
  rintro e w2 ⟨rfl,hb2⟩
  have HB2:=za (zj HB1.out hb2)
  clear hb2 HB1 HF
  go_wp2_with fail
  with_reducible refine (HV.out _ HB2.out).mono ?_
  rintro e w3 ⟨rfl,hb3⟩
  have HB3:=za (zj HB2.out hb3)
  clear hb3 HB2 HV
  go_wp2
  go_ret
  exact ⟨rfl,HB3.out⟩
 | true =>
 rw [hq] at HF
 have HSZ:Hid (∀ t∈l,t.o.a.size≤1000∧t.o.b.size≤1000):=few17_size hq
 have hle:=few17_len hq
 clear hq
 have HNE:Hid (∀ W,Calls Tryz.prog 10 #[.int .i64 3] W fun e w'=>∃ C,e=.returned (.pointer (some ⟨C,0,none⟩))∧vz W (VL 3) (.pointer (some ⟨C,0,none⟩)) w'∧Below W.heap.size W w'):=fun W=>FA 3 W (by decide)
 have HGD:Hid ((VL 3).Good):=new17_good (by decide)
 have HL14:Hid (∀ W,Below w.heap.size w W→yc W):=fun W hW=>hl.later hW
 have HL5:Hid (∀ W,Below w.heap.size w W→vY W):=fun W hW=>h5.later hW
 clear hl h5
 go_enter Tryz.func5,Tryz.ntmps5
 go_wp2_with fail
 with_reducible refine (HV.out w (Below.refl _ _)).mono ?_
 rintro e w1 ⟨rfl,hb1⟩
 have HB1:=za hb1
 clear hb1 HV
 go_wp2_with fail
 with_reducible refine (HF.out _ HB1.out).mono ?_
 rintro e w2 ⟨rfl,hb2⟩
 have HB2:=za (zj HB1.out hb2)
 clear hb2 HB1 HF
 go_wp2_with fail
 with_reducible refine (HNE.out _).mono ?_
 rintro e w3 ⟨H,rfl,h1,h2⟩
 obtain ⟨F0,hs0,_⟩:=Um.made HB2.out h1 h2 HGD.out
 have HS0:=za hs0
 clear h1 h2 hs0 HB2 HNE HGD
 generalize VL 3=s0 at *
 go_wp2
 go_loopg [25] n (fun gg st wr=>∃ k:Nat,k≤n∧n - k≤gg∧st=.int .i64 k∧Hid (∃ F s,Um w wr H F s))
 case atStart=>exact ⟨0,Nat.zero_le _,by omega,rfl,_,_,HS0.out⟩
 case round =>
  clear HS0
  obtain ⟨k,hk,hg,rfl,HK⟩:=hrel
  generalize wr=wo at *
  by_cases hlt:k<n
  case neg =>
   have hltz:¬ (k:Int)<(n:Int):=by omega
   obtain ⟨F,s,hs⟩:=HK.out
   have HB:=za hs.bel
   clear hs HK
   go_wp2
   go_ret
   exact ⟨rfl,HB.out⟩
  have hltz:(k:Int)<(n:Int):=by omega
  have hkl:k<l.length:=HL.out ▸ hlt
  obtain ⟨F,s,hs⟩:=HK.out
  obtain ⟨b',off,rfl,c0,c1,c2,c3,c4,c5,c6⟩:=(HR.out.later hs.bel).at17 k hkl
  obtain ⟨hsa,hsb⟩:=HSZ.out _ (List.getElem_mem hkl)
  have hok:=HO.out _ (List.getElem_mem hkl)
  generalize l[k]=t at *
  have HRa:Hid (zM (wo.alloc (.cells #[.int .u8 (t.cl:Int),.int .u64 (t.n:Int),.int .u8 t.o.kd.toNat,.string t.o.a,.string t.o.b,.int .u8 t.o.nd.toNat,.int .u8 t.o.rl.toNat] 49)) wo.heap.size t.cl t.n t.o):=heap_alloc_new wo _
  have HSa:=za (hs.later (ze (Below.refl _ wo) (.cells #[.int .u8 (t.cl:Int),.int .u64 (t.n:Int),.int .u8 t.o.kd.toNat,.string t.o.a,.string t.o.b,.int .u8 t.o.nd.toNat,.int .u8 t.o.rl.toNat] 49)))
  have HNa:=za (hs.ne wo.heap.size (Nat.le_refl _))
  have HDW:Hid (w.heap.size≤wo.heap.size):=hs.bel.size
  have HSo:=za hs
  clear hs HK
  have hcl256:=hok.cl
  have hn64:=hok.n
  clear hok
  by_cases h255:t.cl=255
  ·
   have q255:((t.cl:Int) == 255)=true:=by rw [h255]; rfl
   have HRz:Hid (zM (wo.alloc (.cells #[.int .u8 0,.int .u64 (t.n:Int),.int .u8 t.o.kd.toNat,.string t.o.a,.string t.o.b,.int .u8 t.o.nd.toNat,.int .u8 t.o.rl.toNat] 49)) wo.heap.size 0 t.n t.o):=heap_alloc_new wo _
   have HSz:=za (HSo.out.later (ze (Below.refl _ wo) (.cells #[.int .u8 0,.int .u64 (t.n:Int),.int .u8 t.o.kd.toNat,.string t.o.a,.string t.o.b,.int .u8 t.o.nd.toNat,.int .u8 t.o.rl.toNat] 49)))
   clear HRa HSa HSo
   rw [h255] at c0
   clear h255
   go_wp2
   clear c0 c1 c2 c3 c4 c5 c6
   generalize wo.alloc (.cells #[.int .u8 0,.int .u64 (t.n:Int),.int .u8 t.o.kd.toNat,.string t.o.a,.string t.o.b,.int .u8 t.o.nd.toNat,.int .u8 t.o.rl.toNat] 49)=wa at *
   generalize wo.heap.size=D at *
   obtain ⟨cl,hcl⟩:∃ cl,cl=(0:Nat):=⟨_,rfl⟩
   have HRa:=za (show zM wa D cl t.n t.o by rw [hcl]; exact HRz.out)
   have HSa:=za HSz.out
   have HC:=za (show cl≠255 by omega)
   clear HRz HSz hcl hcl256
   have HTB:Hid (∀ W,Below wa.heap.size wa W→Calls Tryz.prog 19 #[.pointer (some ⟨H,0,none⟩)] W fun e w'=>∃ C,e=.returned (.pointer (some ⟨C,0,none⟩))∧vW W s.X (.pointer (some ⟨C,0,none⟩)) w'∧Below W.heap.size W w'):=fun W hW=>Qf (HSa.out.later hW).at_
   have HD:Hid (∀ W F' s',Um w W H F' s'→Calls Tryz.prog 18 #[.pointer (some ⟨H,0,none⟩)] W (qJ W (dirB17 s'.d))):=fun W F' s' h=>dir17_calls h.at_ h.good (HL5.out W h.bel)
   unfold qJ at HD
   have HAP:Hid (∀ W F' s' (k:Nat),Um w W H F' s'→Calls Tryz.prog 15 #[.pointer (some ⟨H,0,none⟩),.agg #[.int .u8 (cl:Int),.int .u64 (k:Int),.int .u8 t.o.kd.toNat,.string t.o.a,.string t.o.b,.int .u8 t.o.nd.toNat,.int .u8 t.o.rl.toNat]] W fun e w'=>∃ A cc F2,e=.returned (.tuple #[.agg #[.int .i64 (yu s' cl k t.o),.slice A (yZ s' cl k t.o).length cc],.bool (zY s' cl k t.o)])∧vB w' A (yZ s' cl k t.o)∧Um w w' H F2 (zF s' cl k t.o)∧(∀ i,F2 i→F' i∨W.heap.size≤i)∧zg F' W w'):=fun W F' s' k h =>
    (ZB h.at_ h.good cl k t.o (HL14.out W h.bel) (HL5.out W h.bel) hsa hsb).mono fun e w' ⟨A,cc,h1,h2,h3⟩=>by
     obtain ⟨F2,k1,k3,k2⟩:=h.goes h3 (h.good.app cl k t.o)
     exact ⟨A,cc,F2,h1,h2,k1,k3,k2⟩
   have HUP:Hid (∀ W F' s' (k:Nat),Um w W H F' s'→Calls Tryz.prog 24 #[.pointer (some ⟨H,0,none⟩),.agg #[.int .u8 (cl:Int),.int .u64 (k:Int),.int .u8 t.o.kd.toNat,.string t.o.a,.string t.o.b,.int .u8 t.o.nd.toNat,.int .u8 t.o.rl.toNat]] W (zC (.bool (up17 s' cl k t.o)) W)):=fun W F' s' k h =>
    upgrades17_calls h.at_ h.good cl k t.o (HL14.out W h.bel) (HL5.out W h.bel) hsa hsb
   have HAG:Hid (zY s cl t.n t.o=true→zY (zF s cl t.n t.o) cl t.n t.o=false∧yu (zF s cl t.n t.o) cl t.n t.o=yu s cl t.n t.o∧yZ (zF s cl t.n t.o) cl t.n t.o=yZ s cl t.n t.o∧zF (zF s cl t.n t.o) cl t.n t.o=zF s cl t.n t.o):=fun h=>once_again17 HC.out h
   have HEL:Hid (zY s cl t.n t.o=true→zY (zF s cl t.n t.o) cl (t.n - 1) t.o=false∧zF (zF s cl t.n t.o) cl (t.n - 1) t.o=zF s cl t.n t.o∧(0<t.n - 1→yu (zF s cl t.n t.o) cl (t.n - 1) t.o=12)):=fun h=>once_elder17 HC.out h
   have HM5:Hid (zY s cl t.n t.o=true→(yZ s cl t.n t.o).length≤9223372036854775807):=fun h=>Nat.le_trans (appT17_few HSa.out.good HC.out h) (by decide)
   clear hsa hsb
   refine yg (by kernel_rfl) (fun W=>Below wa.heap.size wa W) (fun j v W=>YO9 H D cl (XQ s cl) s.X j v W) ?F9b ?hF9b (by kernel_rfl) (by kernel_rfl) (qf (Below.refl _ _)) ?step9b ?fin9b
   case hF9b =>
    intro x
    simp only [List.map_cons,List.map_nil,xU,Act.put,List.setIfInBounds_toArray,List.set_cons_zero,List.set_cons_succ,Nat.zero_add,Nat.reduceAdd]
    exact rfl
   case step9b =>
    refine ⟨?_,?_,?_,?_,?_,?_,trivial⟩
    all_goals intro x W hW hdep K hK
    ·
     clear hdep
     go_simp
     exact hK _ _ rfl hW (fun _ _ h=>h)
    ·
     have h0:x 0=_:=hdep 0 rfl
     clear hdep
     simp only [h0] at hK
     go_simp
     refine (HTB.out W hW).mono ?_
     rintro e W' ⟨C,rfl,⟨C',T,e',_,ho,hx⟩,hb⟩
     injection e' with e'
     injection e' with e'
     injection e' with e'
     subst e'
     exact hK _ _ ⟨C,T,rfl,ho,hx⟩ (zj hW hb) (fun j z h=>YO9_keep hb j z h)
    ·
     clear hdep
     go_simp
     exact hK _ _ rfl hW (fun _ _ h=>h)
    ·
     have h2:x 2=_:=hdep 2 rfl
     have y0:=(HRa.out.below hW).c0
     clear hdep
     simp only [h2] at hK
     go_simp
     exact hK _ _ rfl hW (fun _ _ h=>h)
    ·
     have h3:x 3=_:=hdep 3 rfl
     obtain ⟨C,T,h1,ho,hx⟩:∃ C T,x 1=.pointer (some ⟨C,0,none⟩)∧vH W (C+1) C T∧∀ i,i<8→(T i).p=s.X i:=hdep 1 rfl
     have HLA:=Last15_calls C T cl W ho.at_
     rw [getT_last17 hx cl] at HLA
     clear hdep
     simp only [h3,h1] at hK
     go_simp
     refine HLA.mono ?_
     rintro e W' ⟨rfl,hb⟩
     exact hK _ _ rfl (zj hW hb) (fun j z h=>YO9_keep hb j z h)
    ·
     have h4:x 4=_:=hdep 4 rfl
     clear hdep
     simp only [h4] at hK
     go_simp
     exact hK _ _ rfl hW (fun _ _ h=>h)
   case fin9b =>
    intro x W hW hY
    have h5:x 5=.int .u64 (XQ s cl:Nat):=hY 5 (by decide)
    have HSb:=za (HSa.out.later hW)
    have HRb:=za (HRa.out.below hW)
    clear hY hW HSa HRa HTB
    rw [h5]
    go_wp2_with fail
    with_reducible refine (HD.out _ _ _ HSb.out).mono ?_
    rintro e wc ⟨v,rfl,ho,_,hb⟩
    obtain ⟨Adc,cdc,ed⟩:=(Rd.of_own ho).shape
    have hr:=Rd.of_own ho
    rw [ed] at hr
    have hstrc:=hr.string (P:=Tryz.prog) (src:=62) (dst:=9) Tryz.underlying62 Tryz.underlying5 Tryz.underlying9
    subst ed
    have HSc:=za (HSb.out.later hb)
    have HRc:=za (HRb.out.below hb)
    clear hb ho hr
    have y0:=HRc.out.c0
    have y1:=HRc.out.c1
    have y2:=HRc.out.c2
    have y3:=HRc.out.c3
    have y4:=HRc.out.c4
    have y5:=HRc.out.c5
    have y6:=HRc.out.c6
    clear HSb HRb
    go_wp2_with fail
    with_reducible refine (HAP.out _ _ _ t.n HSc.out).mono ?_
    rintro e w5 ⟨A5,c5,F5,rfl,htx,hs,hF,ht⟩
    have HRd:=za (HRc.out.turns ht HNa.out)
    have HND:Hid (¬ F5 D):=fun h=>by
     rcases hF D h with e | e
     ·
      exact HNa.out e
     ·
      exact Nat.lt_irrefl _ (Nat.lt_of_lt_of_le HRc.out.lt e)
    clear ht hF HNa HSc HRc y0 y1 y2 y3 y4 y5 y6 hstrc
    have HQ:=za (once_b17 s HC.out t.n t.o)
    rcases once_c17 s cl t.n with hq | ⟨q1,hq⟩ | ⟨q1,q2,hq⟩ | ⟨q1,q2,q3⟩
    ·
     have hB:zY s cl t.n t.o=false:=by rw [HQ.out]; simp; omega
     have hS:zF s cl t.n t.o=s:=by unfold zF; rw [hB]; rfl
     rw [hS] at hs
     rw [hB]
     have d1:decide ((cl:Int)<8)=false:=by simp; omega
     have d1':decide (cl<8)=false:=by simp; omega
     have HSd:=za (hs.later (ze (Below.refl _ w5) (.cells #[.int .i64 (yu s cl t.n t.o),.slice A5 (yZ s cl t.n t.o).length c5] 56)))
     have hr0:=HRd.out.below (ze (Below.refl _ w5) (.cells #[.int .i64 (yu s cl t.n t.o),.slice A5 (yZ s cl t.n t.o).length c5] 56))
     have y0:=hr0.c0
     have y1:=hr0.c1
     have hbb:((⟨(dirB17 s.d).toArray⟩:ByteArray).toList != (⟨(dirB17 s.d).toArray⟩:ByteArray).toList)=false:=by simp
     clear hs htx hr0 HRd hB hS HQ HAP HUP HAG HEL HND HM5
     go_wp2_with fail
     with_reducible refine (HD.out _ _ _ HSd.out).mono ?_
     rintro e wf ⟨v,rfl,ho,_,hb⟩
     obtain ⟨Adf,cdf,ed⟩:=(Rd.of_own ho).shape
     have hr:=Rd.of_own ho
     rw [ed] at hr
     have hstrf:=hr.string (P:=Tryz.prog) (src:=62) (dst:=9) Tryz.underlying62 Tryz.underlying5 Tryz.underlying9
     subst ed
     have HSf:=za (HSd.out.later hb)
     clear hb ho hr
     go_wp2
     go_roundg (n - (k+1))
     case measure=>omega
     case rel=>exact ⟨k+1,by omega,by omega,by go_num,_,_,HSf.out⟩

    ·
     have hB:zY s cl t.n t.o=false:=by rw [HQ.out]; simp; omega
     have hS:zF s cl t.n t.o=s:=by unfold zF; rw [hB]; rfl
     rw [hS] at hs
     rw [hB]
     have d1:decide ((cl:Int)<8)=true:=by simp; omega
     have d1':decide (cl<8)=true:=by simp; omega
     have d2:decide ((t.n:Int) > (XQ s cl:Nat))=false:=by simp; omega
     have d2':decide (XQ s cl<t.n)=false:=by simp; omega
     have d2'':decide (((XQ s cl:Nat):Int)<t.n)=false:=by simp; omega
     have HSd:=za (hs.later (ze (Below.refl _ w5) (.cells #[.int .i64 (yu s cl t.n t.o),.slice A5 (yZ s cl t.n t.o).length c5] 56)))
     have hr0:=HRd.out.below (ze (Below.refl _ w5) (.cells #[.int .i64 (yu s cl t.n t.o),.slice A5 (yZ s cl t.n t.o).length c5] 56))
     have y0:=hr0.c0
     have y1:=hr0.c1
     have hbb:((⟨(dirB17 s.d).toArray⟩:ByteArray).toList != (⟨(dirB17 s.d).toArray⟩:ByteArray).toList)=false:=by simp
     clear hs htx hr0 HRd hB hS HQ HAP HUP HAG HEL HND HM5
     go_wp2_with fail
     with_reducible refine (HD.out _ _ _ HSd.out).mono ?_
     rintro e wf ⟨v,rfl,ho,_,hb⟩
     obtain ⟨Adf,cdf,ed⟩:=(Rd.of_own ho).shape
     have hr:=Rd.of_own ho
     rw [ed] at hr
     have hstrf:=hr.string (P:=Tryz.prog) (src:=62) (dst:=9) Tryz.underlying62 Tryz.underlying5 Tryz.underlying9
     subst ed
     have HSf:=za (HSd.out.later hb)
     clear hb ho hr
     go_wp2
     go_roundg (n - (k+1))
     case measure=>omega
     case rel=>exact ⟨k+1,by omega,by omega,by go_num,_,_,HSf.out⟩

    ·
     have hB:zY s cl t.n t.o=false:=by rw [HQ.out]; simp; omega
     have hS:zF s cl t.n t.o=s:=by unfold zF; rw [hB]; rfl
     rw [hS] at hs
     rw [hB]
     have d1:decide ((cl:Int)<8)=true:=by simp; omega
     have d1':decide (cl<8)=true:=by simp; omega
     have d2:decide ((t.n:Int) > (XQ s cl:Nat))=true:=by simp; omega
     have d2':decide (XQ s cl<t.n)=true:=by simp; omega
     have d2'':decide (((XQ s cl:Nat):Int)<t.n)=true:=by simp; omega
     have d3:decide ((t.n:Int)≤1099511627776)=false:=by simp; omega
     have d3':decide (t.n≤1099511627776)=false:=by simp; omega
     have HSd:=za (hs.later (ze (Below.refl _ w5) (.cells #[.int .i64 (yu s cl t.n t.o),.slice A5 (yZ s cl t.n t.o).length c5] 56)))
     have hr0:=HRd.out.below (ze (Below.refl _ w5) (.cells #[.int .i64 (yu s cl t.n t.o),.slice A5 (yZ s cl t.n t.o).length c5] 56))
     have y0:=hr0.c0
     have y1:=hr0.c1
     have hbb:((⟨(dirB17 s.d).toArray⟩:ByteArray).toList != (⟨(dirB17 s.d).toArray⟩:ByteArray).toList)=false:=by simp
     clear hs htx hr0 HRd hB hS HQ HAP HUP HAG HEL HND HM5
     go_wp2_with fail
     with_reducible refine (HD.out _ _ _ HSd.out).mono ?_
     rintro e wf ⟨v,rfl,ho,_,hb⟩
     obtain ⟨Adf,cdf,ed⟩:=(Rd.of_own ho).shape
     have hr:=Rd.of_own ho
     rw [ed] at hr
     have hstrf:=hr.string (P:=Tryz.prog) (src:=62) (dst:=9) Tryz.underlying62 Tryz.underlying5 Tryz.underlying9
     subst ed
     have HSf:=za (HSd.out.later hb)
     clear hb ho hr
     go_wp2
     go_roundg (n - (k+1))
     case measure=>omega
     case rel=>exact ⟨k+1,by omega,by omega,by go_num,_,_,HSf.out⟩

    ·
     have hB:zY s cl t.n t.o=true:=by rw [HQ.out]; simp; omega
     rw [hB]
     have d1:decide ((cl:Int)<8)=true:=by simp; omega
     have d1':decide (cl<8)=true:=by simp; omega
     have d2:decide ((t.n:Int) > (XQ s cl:Nat))=true:=by simp; omega
     have d2':decide (XQ s cl<t.n)=true:=by simp; omega
     have d2'':decide (((XQ s cl:Nat):Int)<t.n)=true:=by simp; omega
     have d3:decide ((t.n:Int)≤1099511627776)=true:=by simp; omega
     have d3':decide (t.n≤1099511627776)=true:=by simp; omega
     have HAG2:=za (HAG.out hB)
     have HM6:=za (HM5.out hB)
     have HEL2:=za (HEL.out hB)
     have hsub:IntKind.u64.wrap ((t.n:Int) - 1)=((t.n - 1:Nat):Int):=by rw [IntKind.wrap_u64]; omega
     clear HAG HEL hB HQ HM5
     generalize zF s cl t.n t.o=s2 at *
     generalize yu s cl t.n t.o=er at *
     generalize yZ s cl t.n t.o=ss at *
     generalize hm5:ss.length=m5 at *
     have HX6:Hid (ug (w5.alloc (.cells #[.int .i64 er,.slice A5 m5 c5] 56)) w5.heap.size er (.slice A5 m5 c5)):=heap_alloc_new w5 _
     have HS6:=za (hs.later (ze (Below.refl _ w5) (.cells #[.int .i64 er,.slice A5 m5 c5] 56)))
     have HR6:=za (HRd.out.below (ze (Below.refl _ w5) (.cells #[.int .i64 er,.slice A5 m5 c5] 56)))
     have HT6:=za (htx.later (ze (Below.refl _ w5) (.cells #[.int .i64 er,.slice A5 m5 c5] 56)))
     have HNX:=za (hs.ne w5.heap.size (Nat.le_refl _))
     have y0:=HR6.out.c0
     have y1:=HR6.out.c1
     clear hs htx HRd
     have HA2:Hid (∀ W F',Um w W H F' s2→Calls Tryz.prog 15 #[.pointer (some ⟨H,0,none⟩),.agg #[.int .u8 (cl:Int),.int .u64 (t.n:Int),.int .u8 t.o.kd.toNat,.string t.o.a,.string t.o.b,.int .u8 t.o.nd.toNat,.int .u8 t.o.rl.toNat]] W fun e w'=>∃ A cc F2,e=.returned (.tuple #[.agg #[.int .i64 er,.slice A m5 cc],.bool false])∧vB w' A ss∧Um w w' H F2 s2∧(∀ i,F2 i→F' i∨W.heap.size≤i)∧zg F' W w'):=fun W F' h=>by
      obtain ⟨g1,g2,g3,g4⟩:=HAG2.out
      have:=HAP.out W F' s2 t.n h
      rw [g1,g2,g3,g4,hm5] at this
      exact this
     have HA3:Hid (∀ W F',Um w W H F' s2→Calls Tryz.prog 15 #[.pointer (some ⟨H,0,none⟩),.agg #[.int .u8 (cl:Int),.int .u64 ((t.n - 1:Nat):Int),.int .u8 t.o.kd.toNat,.string t.o.a,.string t.o.b,.int .u8 t.o.nd.toNat,.int .u8 t.o.rl.toNat]] W fun e w'=>∃ A cc F2,e=.returned (.tuple #[.agg #[.int .i64 (yu s2 cl (t.n - 1) t.o),.slice A (yZ s2 cl (t.n - 1) t.o).length cc],.bool false])∧vB w' A (yZ s2 cl (t.n - 1) t.o)∧Um w w' H F2 s2∧(∀ i,F2 i→F' i∨W.heap.size≤i)∧zg F' W w'):=fun W F' h=>by
      obtain ⟨g1,g2,_⟩:=HEL2.out
      have:=HAP.out W F' s2 (t.n - 1) h
      rw [g1,g2] at this
      exact this
     have HU3:Hid (∀ W F',Um w W H F' s2→Calls Tryz.prog 24 #[.pointer (some ⟨H,0,none⟩),.agg #[.int .u8 (cl:Int),.int .u64 ((t.n - 1:Nat):Int),.int .u8 t.o.kd.toNat,.string t.o.a,.string t.o.b,.int .u8 t.o.nd.toNat,.int .u8 t.o.rl.toNat]] W (zC (.bool false) W)):=fun W F' h=>by
      have:=HUP.out W F' s2 (t.n - 1) h
      rwa [show up17 s2 cl (t.n - 1) t.o=false by unfold up17; rw [HEL2.out.2.1]; simp] at this
     have HE3:Hid (0<t.n - 1→yu s2 cl (t.n - 1) t.o=12):=HEL2.out.2.2
     generalize hX1:w5.heap.size=X1 at *
     generalize yu s2 cl (t.n - 1) t.o=e3 at *
     generalize yZ s2 cl (t.n - 1) t.o=s3 at *
     generalize s3.length=m3 at *
     clear HAG2 HEL2 HAP HUP
     go_wp2_with fail
     with_reducible refine (HD.out _ _ _ HS6.out).mono ?_
     rintro e w7 ⟨v,rfl,ho,_,hb⟩
     obtain ⟨Ad7,cd7,ed⟩:=(Rd.of_own ho).shape
     have hr:=Rd.of_own ho
     rw [ed] at hr
     have hstr7:=hr.string (P:=Tryz.prog) (src:=62) (dst:=9) Tryz.underlying62 Tryz.underlying5 Tryz.underlying9
     subst ed
     have HS7:=za (HS6.out.later hb)
     have HR7:=za (HR6.out.below hb)
     have HX7:=za (HX6.out.below hb)
     have HT7:=za (HT6.out.later hb)
     clear hb ho hr
     clear HS6 HR6 HX6 HT6 y0 y1
     have y0:=HR7.out.c0
     have y1:=HR7.out.c1
     have y2:=HR7.out.c2
     have y3:=HR7.out.c3
     have y4:=HR7.out.c4
     have y5:=HR7.out.c5
     have y6:=HR7.out.c6
     go_wp2_with fail
     with_reducible refine (HA2.out _ _ HS7.out).mono ?_
     rintro e w8 ⟨A8,c8,F8,rfl,htx,hs,hF,ht⟩
     have HR9:=za ((HR7.out.turns ht HND.out).below (ze (Below.refl _ w8) (.cells #[.int .i64 er,.slice A8 m5 c8] 56)))
     have HX9:=za ((HX7.out.turns ht HNX.out).below (ze (Below.refl _ w8) (.cells #[.int .i64 er,.slice A8 m5 c8] 56)))
     have HT9:=za ((HT7.out.turns ht (fun i hi=>HS7.out.at_.nos hi)).later (ze (Below.refl _ w8) (.cells #[.int .i64 er,.slice A8 m5 c8] 56)))
     have HU9:=za (htx.later (ze (Below.refl _ w8) (.cells #[.int .i64 er,.slice A8 m5 c8] 56)))
     have HY9:Hid (ug (w8.alloc (.cells #[.int .i64 er,.slice A8 m5 c8] 56)) w8.heap.size er (.slice A8 m5 c8)):=heap_alloc_new w8 _
     have HS9:=za (hs.later (ze (Below.refl _ w8) (.cells #[.int .i64 er,.slice A8 m5 c8] 56)))
     have HND8:Hid (¬ F8 D):=fun h=>by
      rcases hF D h with e | e
      ·
       exact HND.out e
      ·
       exact Nat.lt_irrefl _ (Nat.lt_of_lt_of_le HR7.out.lt e)
     have HSM:=za (Same14_calls er er A5 A8 c5 c8 ss ss (w8.alloc (.cells #[.int .i64 er,.slice A8 m5 c8] 56)) HT9.out.1 HU9.out.1 (by rw [hm5]; exact HM6.out))
     rw [show sam14 er ss er ss=true by simp [sam14],hm5] at HSM
     have u0:=HX9.out.c0
     have u1:=HX9.out.c1
     have z0:=HY9.out.c0
     have z1:=HY9.out.c1
     clear htx hs hF ht HR7 HX7 HT7 HS7 HND HNX HT9 HU9 HX9 HY9 HA2 y0 y1 y2 y3 y4 y5 y6 hstr7
     generalize hX2:w8.heap.size=X2 at *
     go_wp2_with fail
     with_reducible refine HSM.out.mono ?_
     rintro e w10 ⟨rfl,hb⟩
     have HSa1:=za (HS9.out.later hb)
     have HRa1:=za (HR9.out.below hb)
     clear hb HS9 HR9 HSM u0 u1 z0 z1
     have hbb:((⟨(dirB17 s2.d).toArray⟩:ByteArray).toList != (⟨(dirB17 s2.d).toArray⟩:ByteArray).toList)=false:=by simp
     go_wp2_with fail
     with_reducible refine (HD.out _ _ _ HSa1.out).mono ?_
     rintro e w11 ⟨v,rfl,ho,_,hb⟩
     obtain ⟨Ad11,cd11,ed⟩:=(Rd.of_own ho).shape
     have hr:=Rd.of_own ho
     rw [ed] at hr
     have hstr11:=hr.string (P:=Tryz.prog) (src:=62) (dst:=9) Tryz.underlying62 Tryz.underlying5 Tryz.underlying9
     subst ed
     have HS11:=za (HSa1.out.later hb)
     have HR11:=za (HRa1.out.below hb)
     clear hb ho hr
     clear HSa1 HRa1
     have HR12:=za (HR11.out.set1 (t.n - 1))
     have HS12:=za (HS11.out.set1 HND8.out HR11.out HDW.out (.int .u64 (t.n - 1:Nat)))
     have xf:=HR11.out.fr
     have y1:=HR11.out.c1
     have z0:=HR12.out.c0
     have z1:=HR12.out.c1
     have z2:=HR12.out.c2
     have z3:=HR12.out.c3
     have z4:=HR12.out.c4
     have z5:=HR12.out.c5
     have z6:=HR12.out.c6
     go_wp2_with fail
     with_reducible refine (HA3.out _ _ HS12.out).mono ?_
     rintro e w13 ⟨A13,c13,F13,rfl,htx,hs,hF,ht⟩
     have HR14:=za ((HR12.out.turns ht HND8.out).below (ze (Below.refl _ w13) (.cells #[.int .i64 e3,.slice A13 m3 c13] 56)))
     have HY14:Hid (ug (w13.alloc (.cells #[.int .i64 e3,.slice A13 m3 c13] 56)) w13.heap.size e3 (.slice A13 m3 c13)):=heap_alloc_new w13 _
     have HS14:=za (hs.later (ze (Below.refl _ w13) (.cells #[.int .i64 e3,.slice A13 m3 c13] 56)))
     have y0:=HR14.out.c0
     have y1:=HR14.out.c1
     have u0:=HY14.out.c0
     clear htx hs hF ht HR12 HS12 HND8 HY14 HA3 z0 z1 z2 z3 z4 z5 z6 xf hstr11 HR11 HS11
     generalize hX3:w13.heap.size=X3 at *
     by_cases h0:0<t.n - 1
     ·
      have e1:decide (((t.n - 1:Nat):Int) > 0)=true:=by simp only [decide_eq_true_eq]; omega
      have e2:decide (0<t.n - 1)=true:=by simp only [decide_eq_true_eq]; omega
      have e12:=HE3.out h0
      subst e12
      clear HE3 h0
      go_wp2_with fail
      with_reducible refine (HD.out _ _ _ HS14.out).mono ?_
      rintro e w15a ⟨v,rfl,ho,_,hb⟩
      obtain ⟨Ad15a,cd15a,ed⟩:=(Rd.of_own ho).shape
      have hr:=Rd.of_own ho
      rw [ed] at hr
      have hstr15a:=hr.string (P:=Tryz.prog) (src:=62) (dst:=9) Tryz.underlying62 Tryz.underlying5 Tryz.underlying9
      subst ed
      have HS15a:=za (HS14.out.later hb)
      have HR15a:=za (HR14.out.below hb)
      clear hb ho hr
      clear HS14 HR14 u0 y0 y1
      have y0:=HR15a.out.c0
      have y1:=HR15a.out.c1
      have y2:=HR15a.out.c2
      have y3:=HR15a.out.c3
      have y4:=HR15a.out.c4
      have y5:=HR15a.out.c5
      have y6:=HR15a.out.c6
      have HU15:=za (HU3.out _ _ HS15a.out)
      go_wp2_with fail
      with_reducible refine HU15.out.mono ?_
      rintro e w16 ⟨rfl,hb⟩
      have HS16:=za (HS15a.out.later hb)
      clear hb HU15 HS15a HR15a
      go_wp2
      go_roundg (n - (k+1))
      case measure=>omega
      case rel=>exact ⟨k+1,by omega,by omega,by go_num,_,_,HS16.out⟩

     ·
      have e1:decide (((t.n - 1:Nat):Int) > 0)=false:=by simp only [decide_eq_false_iff_not]; omega
      have e2:decide (0<t.n - 1)=false:=by simp only [decide_eq_false_iff_not]; omega
      clear HE3 h0
      go_wp2_with fail
      with_reducible refine (HD.out _ _ _ HS14.out).mono ?_
      rintro e w15b ⟨v,rfl,ho,_,hb⟩
      obtain ⟨Ad15b,cd15b,ed⟩:=(Rd.of_own ho).shape
      have hr:=Rd.of_own ho
      rw [ed] at hr
      have hstr15b:=hr.string (P:=Tryz.prog) (src:=62) (dst:=9) Tryz.underlying62 Tryz.underlying5 Tryz.underlying9
      subst ed
      have HS15b:=za (HS14.out.later hb)
      have HR15b:=za (HR14.out.below hb)
      clear hb ho hr
      clear HS14 HR14 u0 y0 y1
      have y0:=HR15b.out.c0
      have y1:=HR15b.out.c1
      have y2:=HR15b.out.c2
      have y3:=HR15b.out.c3
      have y4:=HR15b.out.c4
      have y5:=HR15b.out.c5
      have y6:=HR15b.out.c6
      have HU15:=za (HU3.out _ _ HS15b.out)
      go_wp2_with fail
      with_reducible refine HU15.out.mono ?_
      rintro e w16 ⟨rfl,hb⟩
      have HS16:=za (HS15b.out.later hb)
      clear hb HU15 HS15b HR15b
      go_wp2
      go_roundg (n - (k+1))
      case measure=>omega
      case rel=>exact ⟨k+1,by omega,by omega,by go_num,_,_,HS16.out⟩

  ·
   have q255:((t.cl:Int) == 255)=false:=by simp; omega
   have HC:Hid (t.cl≠255):=h255
   clear h255
   go_wp2
   clear c0 c1 c2 c3 c4 c5 c6
   generalize wo.alloc (.cells #[.int .u8 (t.cl:Int),.int .u64 (t.n:Int),.int .u8 t.o.kd.toNat,.string t.o.a,.string t.o.b,.int .u8 t.o.nd.toNat,.int .u8 t.o.rl.toNat] 49)=wa at *
   generalize wo.heap.size=D at *
   generalize t.cl=cl at *
   have HTB:Hid (∀ W,Below wa.heap.size wa W→Calls Tryz.prog 19 #[.pointer (some ⟨H,0,none⟩)] W fun e w'=>∃ C,e=.returned (.pointer (some ⟨C,0,none⟩))∧vW W s.X (.pointer (some ⟨C,0,none⟩)) w'∧Below W.heap.size W w'):=fun W hW=>Qf (HSa.out.later hW).at_
   have HD:Hid (∀ W F' s',Um w W H F' s'→Calls Tryz.prog 18 #[.pointer (some ⟨H,0,none⟩)] W (qJ W (dirB17 s'.d))):=fun W F' s' h=>dir17_calls h.at_ h.good (HL5.out W h.bel)
   unfold qJ at HD
   have HAP:Hid (∀ W F' s' (k:Nat),Um w W H F' s'→Calls Tryz.prog 15 #[.pointer (some ⟨H,0,none⟩),.agg #[.int .u8 (cl:Int),.int .u64 (k:Int),.int .u8 t.o.kd.toNat,.string t.o.a,.string t.o.b,.int .u8 t.o.nd.toNat,.int .u8 t.o.rl.toNat]] W fun e w'=>∃ A cc F2,e=.returned (.tuple #[.agg #[.int .i64 (yu s' cl k t.o),.slice A (yZ s' cl k t.o).length cc],.bool (zY s' cl k t.o)])∧vB w' A (yZ s' cl k t.o)∧Um w w' H F2 (zF s' cl k t.o)∧(∀ i,F2 i→F' i∨W.heap.size≤i)∧zg F' W w'):=fun W F' s' k h =>
    (ZB h.at_ h.good cl k t.o (HL14.out W h.bel) (HL5.out W h.bel) hsa hsb).mono fun e w' ⟨A,cc,h1,h2,h3⟩=>by
     obtain ⟨F2,k1,k3,k2⟩:=h.goes h3 (h.good.app cl k t.o)
     exact ⟨A,cc,F2,h1,h2,k1,k3,k2⟩
   have HUP:Hid (∀ W F' s' (k:Nat),Um w W H F' s'→Calls Tryz.prog 24 #[.pointer (some ⟨H,0,none⟩),.agg #[.int .u8 (cl:Int),.int .u64 (k:Int),.int .u8 t.o.kd.toNat,.string t.o.a,.string t.o.b,.int .u8 t.o.nd.toNat,.int .u8 t.o.rl.toNat]] W (zC (.bool (up17 s' cl k t.o)) W)):=fun W F' s' k h =>
    upgrades17_calls h.at_ h.good cl k t.o (HL14.out W h.bel) (HL5.out W h.bel) hsa hsb
   have HAG:Hid (zY s cl t.n t.o=true→zY (zF s cl t.n t.o) cl t.n t.o=false∧yu (zF s cl t.n t.o) cl t.n t.o=yu s cl t.n t.o∧yZ (zF s cl t.n t.o) cl t.n t.o=yZ s cl t.n t.o∧zF (zF s cl t.n t.o) cl t.n t.o=zF s cl t.n t.o):=fun h=>once_again17 HC.out h
   have HEL:Hid (zY s cl t.n t.o=true→zY (zF s cl t.n t.o) cl (t.n - 1) t.o=false∧zF (zF s cl t.n t.o) cl (t.n - 1) t.o=zF s cl t.n t.o∧(0<t.n - 1→yu (zF s cl t.n t.o) cl (t.n - 1) t.o=12)):=fun h=>once_elder17 HC.out h
   have HM5:Hid (zY s cl t.n t.o=true→(yZ s cl t.n t.o).length≤9223372036854775807):=fun h=>Nat.le_trans (appT17_few HSa.out.good HC.out h) (by decide)
   clear hsa hsb
   refine yg (by kernel_rfl) (fun W=>Below wa.heap.size wa W) (fun j v W=>YO9 H D cl (XQ s cl) s.X j v W) ?F9a ?hF9a (by kernel_rfl) (by kernel_rfl) (qf (Below.refl _ _)) ?step9a ?fin9a
   case hF9a =>
    intro x
    simp only [List.map_cons,List.map_nil,xU,Act.put,List.setIfInBounds_toArray,List.set_cons_zero,List.set_cons_succ,Nat.zero_add,Nat.reduceAdd]
    exact rfl
   case step9a =>
    refine ⟨?_,?_,?_,?_,?_,?_,trivial⟩
    all_goals intro x W hW hdep K hK
    ·
     clear hdep
     go_simp
     exact hK _ _ rfl hW (fun _ _ h=>h)
    ·
     have h0:x 0=_:=hdep 0 rfl
     clear hdep
     simp only [h0] at hK
     go_simp
     refine (HTB.out W hW).mono ?_
     rintro e W' ⟨C,rfl,⟨C',T,e',_,ho,hx⟩,hb⟩
     injection e' with e'
     injection e' with e'
     injection e' with e'
     subst e'
     exact hK _ _ ⟨C,T,rfl,ho,hx⟩ (zj hW hb) (fun j z h=>YO9_keep hb j z h)
    ·
     clear hdep
     go_simp
     exact hK _ _ rfl hW (fun _ _ h=>h)
    ·
     have h2:x 2=_:=hdep 2 rfl
     have y0:=(HRa.out.below hW).c0
     clear hdep
     simp only [h2] at hK
     go_simp
     exact hK _ _ rfl hW (fun _ _ h=>h)
    ·
     have h3:x 3=_:=hdep 3 rfl
     obtain ⟨C,T,h1,ho,hx⟩:∃ C T,x 1=.pointer (some ⟨C,0,none⟩)∧vH W (C+1) C T∧∀ i,i<8→(T i).p=s.X i:=hdep 1 rfl
     have HLA:=Last15_calls C T cl W ho.at_
     rw [getT_last17 hx cl] at HLA
     clear hdep
     simp only [h3,h1] at hK
     go_simp
     refine HLA.mono ?_
     rintro e W' ⟨rfl,hb⟩
     exact hK _ _ rfl (zj hW hb) (fun j z h=>YO9_keep hb j z h)
    ·
     have h4:x 4=_:=hdep 4 rfl
     clear hdep
     simp only [h4] at hK
     go_simp
     exact hK _ _ rfl hW (fun _ _ h=>h)
   case fin9a =>
    intro x W hW hY
    have h5:x 5=.int .u64 (XQ s cl:Nat):=hY 5 (by decide)
    have HSb:=za (HSa.out.later hW)
    have HRb:=za (HRa.out.below hW)
    clear hY hW HSa HRa HTB
    rw [h5]
    go_wp2_with fail
    with_reducible refine (HD.out _ _ _ HSb.out).mono ?_
    rintro e wc ⟨v,rfl,ho,_,hb⟩
    obtain ⟨Adc,cdc,ed⟩:=(Rd.of_own ho).shape
    have hr:=Rd.of_own ho
    rw [ed] at hr
    have hstrc:=hr.string (P:=Tryz.prog) (src:=62) (dst:=9) Tryz.underlying62 Tryz.underlying5 Tryz.underlying9
    subst ed
    have HSc:=za (HSb.out.later hb)
    have HRc:=za (HRb.out.below hb)
    clear hb ho hr
    have y0:=HRc.out.c0
    have y1:=HRc.out.c1
    have y2:=HRc.out.c2
    have y3:=HRc.out.c3
    have y4:=HRc.out.c4
    have y5:=HRc.out.c5
    have y6:=HRc.out.c6
    clear HSb HRb
    go_wp2_with fail
    with_reducible refine (HAP.out _ _ _ t.n HSc.out).mono ?_
    rintro e w5 ⟨A5,c5,F5,rfl,htx,hs,hF,ht⟩
    have HRd:=za (HRc.out.turns ht HNa.out)
    have HND:Hid (¬ F5 D):=fun h=>by
     rcases hF D h with e | e
     ·
      exact HNa.out e
     ·
      exact Nat.lt_irrefl _ (Nat.lt_of_lt_of_le HRc.out.lt e)
    clear ht hF HNa HSc HRc y0 y1 y2 y3 y4 y5 y6 hstrc
    have HQ:=za (once_b17 s HC.out t.n t.o)
    rcases once_c17 s cl t.n with hq | ⟨q1,hq⟩ | ⟨q1,q2,hq⟩ | ⟨q1,q2,q3⟩
    ·
     have hB:zY s cl t.n t.o=false:=by rw [HQ.out]; simp; omega
     have hS:zF s cl t.n t.o=s:=by unfold zF; rw [hB]; rfl
     rw [hS] at hs
     rw [hB]
     have d1:decide ((cl:Int)<8)=false:=by simp; omega
     have d1':decide (cl<8)=false:=by simp; omega
     have HSd:=za (hs.later (ze (Below.refl _ w5) (.cells #[.int .i64 (yu s cl t.n t.o),.slice A5 (yZ s cl t.n t.o).length c5] 56)))
     have hr0:=HRd.out.below (ze (Below.refl _ w5) (.cells #[.int .i64 (yu s cl t.n t.o),.slice A5 (yZ s cl t.n t.o).length c5] 56))
     have y0:=hr0.c0
     have y1:=hr0.c1
     have hbb:((⟨(dirB17 s.d).toArray⟩:ByteArray).toList != (⟨(dirB17 s.d).toArray⟩:ByteArray).toList)=false:=by simp
     clear hs htx hr0 HRd hB hS HQ HAP HUP HAG HEL HND HM5
     go_wp2_with fail
     with_reducible refine (HD.out _ _ _ HSd.out).mono ?_
     rintro e wf ⟨v,rfl,ho,_,hb⟩
     obtain ⟨Adf,cdf,ed⟩:=(Rd.of_own ho).shape
     have hr:=Rd.of_own ho
     rw [ed] at hr
     have hstrf:=hr.string (P:=Tryz.prog) (src:=62) (dst:=9) Tryz.underlying62 Tryz.underlying5 Tryz.underlying9
     subst ed
     have HSf:=za (HSd.out.later hb)
     clear hb ho hr
     go_wp2
     go_roundg (n - (k+1))
     case measure=>omega
     case rel=>exact ⟨k+1,by omega,by omega,by go_num,_,_,HSf.out⟩

    ·
     have hB:zY s cl t.n t.o=false:=by rw [HQ.out]; simp; omega
     have hS:zF s cl t.n t.o=s:=by unfold zF; rw [hB]; rfl
     rw [hS] at hs
     rw [hB]
     have d1:decide ((cl:Int)<8)=true:=by simp; omega
     have d1':decide (cl<8)=true:=by simp; omega
     have d2:decide ((t.n:Int) > (XQ s cl:Nat))=false:=by simp; omega
     have d2':decide (XQ s cl<t.n)=false:=by simp; omega
     have d2'':decide (((XQ s cl:Nat):Int)<t.n)=false:=by simp; omega
     have HSd:=za (hs.later (ze (Below.refl _ w5) (.cells #[.int .i64 (yu s cl t.n t.o),.slice A5 (yZ s cl t.n t.o).length c5] 56)))
     have hr0:=HRd.out.below (ze (Below.refl _ w5) (.cells #[.int .i64 (yu s cl t.n t.o),.slice A5 (yZ s cl t.n t.o).length c5] 56))
     have y0:=hr0.c0
     have y1:=hr0.c1
     have hbb:((⟨(dirB17 s.d).toArray⟩:ByteArray).toList != (⟨(dirB17 s.d).toArray⟩:ByteArray).toList)=false:=by simp
     clear hs htx hr0 HRd hB hS HQ HAP HUP HAG HEL HND HM5
     go_wp2_with fail
     with_reducible refine (HD.out _ _ _ HSd.out).mono ?_
     rintro e wf ⟨v,rfl,ho,_,hb⟩
     obtain ⟨Adf,cdf,ed⟩:=(Rd.of_own ho).shape
     have hr:=Rd.of_own ho
     rw [ed] at hr
     have hstrf:=hr.string (P:=Tryz.prog) (src:=62) (dst:=9) Tryz.underlying62 Tryz.underlying5 Tryz.underlying9
     subst ed
     have HSf:=za (HSd.out.later hb)
     clear hb ho hr
     go_wp2
     go_roundg (n - (k+1))
     case measure=>omega
     case rel=>exact ⟨k+1,by omega,by omega,by go_num,_,_,HSf.out⟩

    ·
     have hB:zY s cl t.n t.o=false:=by rw [HQ.out]; simp; omega
     have hS:zF s cl t.n t.o=s:=by unfold zF; rw [hB]; rfl
     rw [hS] at hs
     rw [hB]
     have d1:decide ((cl:Int)<8)=true:=by simp; omega
     have d1':decide (cl<8)=true:=by simp; omega
     have d2:decide ((t.n:Int) > (XQ s cl:Nat))=true:=by simp; omega
     have d2':decide (XQ s cl<t.n)=true:=by simp; omega
     have d2'':decide (((XQ s cl:Nat):Int)<t.n)=true:=by simp; omega
     have d3:decide ((t.n:Int)≤1099511627776)=false:=by simp; omega
     have d3':decide (t.n≤1099511627776)=false:=by simp; omega
     have HSd:=za (hs.later (ze (Below.refl _ w5) (.cells #[.int .i64 (yu s cl t.n t.o),.slice A5 (yZ s cl t.n t.o).length c5] 56)))
     have hr0:=HRd.out.below (ze (Below.refl _ w5) (.cells #[.int .i64 (yu s cl t.n t.o),.slice A5 (yZ s cl t.n t.o).length c5] 56))
     have y0:=hr0.c0
     have y1:=hr0.c1
     have hbb:((⟨(dirB17 s.d).toArray⟩:ByteArray).toList != (⟨(dirB17 s.d).toArray⟩:ByteArray).toList)=false:=by simp
     clear hs htx hr0 HRd hB hS HQ HAP HUP HAG HEL HND HM5
     go_wp2_with fail
     with_reducible refine (HD.out _ _ _ HSd.out).mono ?_
     rintro e wf ⟨v,rfl,ho,_,hb⟩
     obtain ⟨Adf,cdf,ed⟩:=(Rd.of_own ho).shape
     have hr:=Rd.of_own ho
     rw [ed] at hr
     have hstrf:=hr.string (P:=Tryz.prog) (src:=62) (dst:=9) Tryz.underlying62 Tryz.underlying5 Tryz.underlying9
     subst ed
     have HSf:=za (HSd.out.later hb)
     clear hb ho hr
     go_wp2
     go_roundg (n - (k+1))
     case measure=>omega
     case rel=>exact ⟨k+1,by omega,by omega,by go_num,_,_,HSf.out⟩

    ·
     have hB:zY s cl t.n t.o=true:=by rw [HQ.out]; simp; omega
     rw [hB]
     have d1:decide ((cl:Int)<8)=true:=by simp; omega
     have d1':decide (cl<8)=true:=by simp; omega
     have d2:decide ((t.n:Int) > (XQ s cl:Nat))=true:=by simp; omega
     have d2':decide (XQ s cl<t.n)=true:=by simp; omega
     have d2'':decide (((XQ s cl:Nat):Int)<t.n)=true:=by simp; omega
     have d3:decide ((t.n:Int)≤1099511627776)=true:=by simp; omega
     have d3':decide (t.n≤1099511627776)=true:=by simp; omega
     have HAG2:=za (HAG.out hB)
     have HM6:=za (HM5.out hB)
     have HEL2:=za (HEL.out hB)
     have hsub:IntKind.u64.wrap ((t.n:Int) - 1)=((t.n - 1:Nat):Int):=by rw [IntKind.wrap_u64]; omega
     clear HAG HEL hB HQ HM5
     generalize zF s cl t.n t.o=s2 at *
     generalize yu s cl t.n t.o=er at *
     generalize yZ s cl t.n t.o=ss at *
     generalize hm5:ss.length=m5 at *
     have HX6:Hid (ug (w5.alloc (.cells #[.int .i64 er,.slice A5 m5 c5] 56)) w5.heap.size er (.slice A5 m5 c5)):=heap_alloc_new w5 _
     have HS6:=za (hs.later (ze (Below.refl _ w5) (.cells #[.int .i64 er,.slice A5 m5 c5] 56)))
     have HR6:=za (HRd.out.below (ze (Below.refl _ w5) (.cells #[.int .i64 er,.slice A5 m5 c5] 56)))
     have HT6:=za (htx.later (ze (Below.refl _ w5) (.cells #[.int .i64 er,.slice A5 m5 c5] 56)))
     have HNX:=za (hs.ne w5.heap.size (Nat.le_refl _))
     have y0:=HR6.out.c0
     have y1:=HR6.out.c1
     clear hs htx HRd
     have HA2:Hid (∀ W F',Um w W H F' s2→Calls Tryz.prog 15 #[.pointer (some ⟨H,0,none⟩),.agg #[.int .u8 (cl:Int),.int .u64 (t.n:Int),.int .u8 t.o.kd.toNat,.string t.o.a,.string t.o.b,.int .u8 t.o.nd.toNat,.int .u8 t.o.rl.toNat]] W fun e w'=>∃ A cc F2,e=.returned (.tuple #[.agg #[.int .i64 er,.slice A m5 cc],.bool false])∧vB w' A ss∧Um w w' H F2 s2∧(∀ i,F2 i→F' i∨W.heap.size≤i)∧zg F' W w'):=fun W F' h=>by
      obtain ⟨g1,g2,g3,g4⟩:=HAG2.out
      have:=HAP.out W F' s2 t.n h
      rw [g1,g2,g3,g4,hm5] at this
      exact this
     have HA3:Hid (∀ W F',Um w W H F' s2→Calls Tryz.prog 15 #[.pointer (some ⟨H,0,none⟩),.agg #[.int .u8 (cl:Int),.int .u64 ((t.n - 1:Nat):Int),.int .u8 t.o.kd.toNat,.string t.o.a,.string t.o.b,.int .u8 t.o.nd.toNat,.int .u8 t.o.rl.toNat]] W fun e w'=>∃ A cc F2,e=.returned (.tuple #[.agg #[.int .i64 (yu s2 cl (t.n - 1) t.o),.slice A (yZ s2 cl (t.n - 1) t.o).length cc],.bool false])∧vB w' A (yZ s2 cl (t.n - 1) t.o)∧Um w w' H F2 s2∧(∀ i,F2 i→F' i∨W.heap.size≤i)∧zg F' W w'):=fun W F' h=>by
      obtain ⟨g1,g2,_⟩:=HEL2.out
      have:=HAP.out W F' s2 (t.n - 1) h
      rw [g1,g2] at this
      exact this
     have HU3:Hid (∀ W F',Um w W H F' s2→Calls Tryz.prog 24 #[.pointer (some ⟨H,0,none⟩),.agg #[.int .u8 (cl:Int),.int .u64 ((t.n - 1:Nat):Int),.int .u8 t.o.kd.toNat,.string t.o.a,.string t.o.b,.int .u8 t.o.nd.toNat,.int .u8 t.o.rl.toNat]] W (zC (.bool false) W)):=fun W F' h=>by
      have:=HUP.out W F' s2 (t.n - 1) h
      rwa [show up17 s2 cl (t.n - 1) t.o=false by unfold up17; rw [HEL2.out.2.1]; simp] at this
     have HE3:Hid (0<t.n - 1→yu s2 cl (t.n - 1) t.o=12):=HEL2.out.2.2
     generalize hX1:w5.heap.size=X1 at *
     generalize yu s2 cl (t.n - 1) t.o=e3 at *
     generalize yZ s2 cl (t.n - 1) t.o=s3 at *
     generalize s3.length=m3 at *
     clear HAG2 HEL2 HAP HUP
     go_wp2_with fail
     with_reducible refine (HD.out _ _ _ HS6.out).mono ?_
     rintro e w7 ⟨v,rfl,ho,_,hb⟩
     obtain ⟨Ad7,cd7,ed⟩:=(Rd.of_own ho).shape
     have hr:=Rd.of_own ho
     rw [ed] at hr
     have hstr7:=hr.string (P:=Tryz.prog) (src:=62) (dst:=9) Tryz.underlying62 Tryz.underlying5 Tryz.underlying9
     subst ed
     have HS7:=za (HS6.out.later hb)
     have HR7:=za (HR6.out.below hb)
     have HX7:=za (HX6.out.below hb)
     have HT7:=za (HT6.out.later hb)
     clear hb ho hr
     clear HS6 HR6 HX6 HT6 y0 y1
     have y0:=HR7.out.c0
     have y1:=HR7.out.c1
     have y2:=HR7.out.c2
     have y3:=HR7.out.c3
     have y4:=HR7.out.c4
     have y5:=HR7.out.c5
     have y6:=HR7.out.c6
     go_wp2_with fail
     with_reducible refine (HA2.out _ _ HS7.out).mono ?_
     rintro e w8 ⟨A8,c8,F8,rfl,htx,hs,hF,ht⟩
     have HR9:=za ((HR7.out.turns ht HND.out).below (ze (Below.refl _ w8) (.cells #[.int .i64 er,.slice A8 m5 c8] 56)))
     have HX9:=za ((HX7.out.turns ht HNX.out).below (ze (Below.refl _ w8) (.cells #[.int .i64 er,.slice A8 m5 c8] 56)))
     have HT9:=za ((HT7.out.turns ht (fun i hi=>HS7.out.at_.nos hi)).later (ze (Below.refl _ w8) (.cells #[.int .i64 er,.slice A8 m5 c8] 56)))
     have HU9:=za (htx.later (ze (Below.refl _ w8) (.cells #[.int .i64 er,.slice A8 m5 c8] 56)))
     have HY9:Hid (ug (w8.alloc (.cells #[.int .i64 er,.slice A8 m5 c8] 56)) w8.heap.size er (.slice A8 m5 c8)):=heap_alloc_new w8 _
     have HS9:=za (hs.later (ze (Below.refl _ w8) (.cells #[.int .i64 er,.slice A8 m5 c8] 56)))
     have HND8:Hid (¬ F8 D):=fun h=>by
      rcases hF D h with e | e
      ·
       exact HND.out e
      ·
       exact Nat.lt_irrefl _ (Nat.lt_of_lt_of_le HR7.out.lt e)
     have HSM:=za (Same14_calls er er A5 A8 c5 c8 ss ss (w8.alloc (.cells #[.int .i64 er,.slice A8 m5 c8] 56)) HT9.out.1 HU9.out.1 (by rw [hm5]; exact HM6.out))
     rw [show sam14 er ss er ss=true by simp [sam14],hm5] at HSM
     have u0:=HX9.out.c0
     have u1:=HX9.out.c1
     have z0:=HY9.out.c0
     have z1:=HY9.out.c1
     clear htx hs hF ht HR7 HX7 HT7 HS7 HND HNX HT9 HU9 HX9 HY9 HA2 y0 y1 y2 y3 y4 y5 y6 hstr7
     generalize hX2:w8.heap.size=X2 at *
     go_wp2_with fail
     with_reducible refine HSM.out.mono ?_
     rintro e w10 ⟨rfl,hb⟩
     have HSa1:=za (HS9.out.later hb)
     have HRa1:=za (HR9.out.below hb)
     clear hb HS9 HR9 HSM u0 u1 z0 z1
     have hbb:((⟨(dirB17 s2.d).toArray⟩:ByteArray).toList != (⟨(dirB17 s2.d).toArray⟩:ByteArray).toList)=false:=by simp
     go_wp2_with fail
     with_reducible refine (HD.out _ _ _ HSa1.out).mono ?_
     rintro e w11 ⟨v,rfl,ho,_,hb⟩
     obtain ⟨Ad11,cd11,ed⟩:=(Rd.of_own ho).shape
     have hr:=Rd.of_own ho
     rw [ed] at hr
     have hstr11:=hr.string (P:=Tryz.prog) (src:=62) (dst:=9) Tryz.underlying62 Tryz.underlying5 Tryz.underlying9
     subst ed
     have HS11:=za (HSa1.out.later hb)
     have HR11:=za (HRa1.out.below hb)
     clear hb ho hr
     clear HSa1 HRa1
     have HR12:=za (HR11.out.set1 (t.n - 1))
     have HS12:=za (HS11.out.set1 HND8.out HR11.out HDW.out (.int .u64 (t.n - 1:Nat)))
     have xf:=HR11.out.fr
     have y1:=HR11.out.c1
     have z0:=HR12.out.c0
     have z1:=HR12.out.c1
     have z2:=HR12.out.c2
     have z3:=HR12.out.c3
     have z4:=HR12.out.c4
     have z5:=HR12.out.c5
     have z6:=HR12.out.c6
     go_wp2_with fail
     with_reducible refine (HA3.out _ _ HS12.out).mono ?_
     rintro e w13 ⟨A13,c13,F13,rfl,htx,hs,hF,ht⟩
     have HR14:=za ((HR12.out.turns ht HND8.out).below (ze (Below.refl _ w13) (.cells #[.int .i64 e3,.slice A13 m3 c13] 56)))
     have HY14:Hid (ug (w13.alloc (.cells #[.int .i64 e3,.slice A13 m3 c13] 56)) w13.heap.size e3 (.slice A13 m3 c13)):=heap_alloc_new w13 _
     have HS14:=za (hs.later (ze (Below.refl _ w13) (.cells #[.int .i64 e3,.slice A13 m3 c13] 56)))
     have y0:=HR14.out.c0
     have y1:=HR14.out.c1
     have u0:=HY14.out.c0
     clear htx hs hF ht HR12 HS12 HND8 HY14 HA3 z0 z1 z2 z3 z4 z5 z6 xf hstr11 HR11 HS11
     generalize hX3:w13.heap.size=X3 at *
     by_cases h0:0<t.n - 1
     ·
      have e1:decide (((t.n - 1:Nat):Int) > 0)=true:=by simp only [decide_eq_true_eq]; omega
      have e2:decide (0<t.n - 1)=true:=by simp only [decide_eq_true_eq]; omega
      have e12:=HE3.out h0
      subst e12
      clear HE3 h0
      go_wp2_with fail
      with_reducible refine (HD.out _ _ _ HS14.out).mono ?_
      rintro e w15a ⟨v,rfl,ho,_,hb⟩
      obtain ⟨Ad15a,cd15a,ed⟩:=(Rd.of_own ho).shape
      have hr:=Rd.of_own ho
      rw [ed] at hr
      have hstr15a:=hr.string (P:=Tryz.prog) (src:=62) (dst:=9) Tryz.underlying62 Tryz.underlying5 Tryz.underlying9
      subst ed
      have HS15a:=za (HS14.out.later hb)
      have HR15a:=za (HR14.out.below hb)
      clear hb ho hr
      clear HS14 HR14 u0 y0 y1
      have y0:=HR15a.out.c0
      have y1:=HR15a.out.c1
      have y2:=HR15a.out.c2
      have y3:=HR15a.out.c3
      have y4:=HR15a.out.c4
      have y5:=HR15a.out.c5
      have y6:=HR15a.out.c6
      have HU15:=za (HU3.out _ _ HS15a.out)
      go_wp2_with fail
      with_reducible refine HU15.out.mono ?_
      rintro e w16 ⟨rfl,hb⟩
      have HS16:=za (HS15a.out.later hb)
      clear hb HU15 HS15a HR15a
      go_wp2
      go_roundg (n - (k+1))
      case measure=>omega
      case rel=>exact ⟨k+1,by omega,by omega,by go_num,_,_,HS16.out⟩

     ·
      have e1:decide (((t.n - 1:Nat):Int) > 0)=false:=by simp only [decide_eq_false_iff_not]; omega
      have e2:decide (0<t.n - 1)=false:=by simp only [decide_eq_false_iff_not]; omega
      clear HE3 h0
      go_wp2_with fail
      with_reducible refine (HD.out _ _ _ HS14.out).mono ?_
      rintro e w15b ⟨v,rfl,ho,_,hb⟩
      obtain ⟨Ad15b,cd15b,ed⟩:=(Rd.of_own ho).shape
      have hr:=Rd.of_own ho
      rw [ed] at hr
      have hstr15b:=hr.string (P:=Tryz.prog) (src:=62) (dst:=9) Tryz.underlying62 Tryz.underlying5 Tryz.underlying9
      subst ed
      have HS15b:=za (HS14.out.later hb)
      have HR15b:=za (HR14.out.below hb)
      clear hb ho hr
      clear HS14 HR14 u0 y0 y1
      have y0:=HR15b.out.c0
      have y1:=HR15b.out.c1
      have y2:=HR15b.out.c2
      have y3:=HR15b.out.c3
      have y4:=HR15b.out.c4
      have y5:=HR15b.out.c5
      have y6:=HR15b.out.c6
      have HU15:=za (HU3.out _ _ HS15b.out)
      go_wp2_with fail
      with_reducible refine HU15.out.mono ?_
      rintro e w16 ⟨rfl,hb⟩
      have HS16:=za (HS15b.out.later hb)
      clear hb HU15 HS15b HR15b
      go_wp2
      go_roundg (n - (k+1))
      case measure=>omega
      case rel=>exact ⟨k+1,by omega,by omega,by go_num,_,_,HS16.out⟩

end Go.Proofs.YteegkoicalbkbaaGreatDoor
