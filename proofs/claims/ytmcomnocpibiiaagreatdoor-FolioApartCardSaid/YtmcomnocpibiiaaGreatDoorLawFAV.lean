/-
  What this law alone needs, the law walked, and its statement.
  Conditions: each theorem's own.
-/
import Derived.Test.YtmcomnocpibiiaaGreatDoorCards
import Derived.Test.YtmcomnocpibiiaaGreatDoorTie
import Derived.Test.YtmcomnocpibiiaaGreatDoorFolABK
set_option maxHeartbeats 16000000
namespace Go.Proofs.YtmcomnocpibiiaaGreatDoor
open Go.RowKit Go.Maps Go.Sort Go.Shelf
set_option linter.unusedVariables false

theorem fold_inj12 {T T2:yi} {N N2:List (List UInt8)} (h1:ue (T.map vh) (N.map zF)=0) (h2:ue (T2.map vh) (N2.map zF)=0):folT12 T N=folT12 T2 N2↔T2=T∧N2=N:=by
 refine ⟨fun e=>?_,fun ⟨a,b⟩=>by rw [a,b]⟩
 have r1:FL (folT12 T N)=(0,T.map vh,N.map zF):=by
  have:=read12_put h1
  rwa [us_nrm12] at this
 have r2:FL (folT12 T2 N2)=(0,T2.map vh,N2.map zF):=by
  have:=read12_put h2
  rwa [us_nrm12] at this
 rw [e,r2] at r1
 injection r1 with _ r1
 injection r1 with a b
 have a':=congrArg qD a
 have b':=congrArg uu b
 rw [plU_usOf12,plU_usOf12] at a'
 rw [Fv,Fv] at b'
 exact ⟨a',b'⟩

/-! ### one of a pair,and the document's rows of it in a variable -/
structure Sd12 (W:World) (b:Nat) (R:zH W11) (v vg:Value) (T:yi) (N:List (List UInt8)):Prop where
 bx:yj W b v vg
 rc:va 0 R W v
 nm:NmR W vg N
 pl:zc R=T
section
variable {W W':World} {b c:Nat} {R:zH W11} {v vg v1 v2:Value} {T:yi} {N:List (List UInt8)}
theorem Sd12.later (h:Sd12 W b R v vg T N) (hb:Below W.heap.size W W'):Sd12 W' b R v vg T N:=⟨h.bx.later hb,h.rc.later hb,h.nm.later hb,h.pl⟩
theorem Sd12.keeps (h:Sd12 W b R v vg T N) (hk:zu W W'):Sd12 W' b R v vg T N:=⟨h.bx.keeps11 hk,h.rc.keeps hk,h.nm.keeps11 hk,h.pl⟩
theorem Sd12.other (h:Sd12 W b R v vg T N) (hc:yj W c v1 v2) (hne:b≠c) (i:Nat) (x:Value):Sd12 (W.setCell ⟨c,i,none⟩ x) b R v vg T N :=
 ⟨h.bx.other hne x,h.rc.keepD11 (hc.keep i x),h.nm.keepD11 (hc.keep i x),h.pl⟩
end
def LoopH12 (w0:World) (D1 D2 Wb Vb:Nat) (T:yi) (N:List (List UInt8)) (T2:yi) (N2:List (List UInt8)) (W:World):Prop :=
 ∃ P1 M1 G1 A1 L1 S1 P2 M2 G2 A2 L2 S2 R1 v1 g1 R2 v2 g2,uc w0 W D1 P1 M1 G1 A1 L1 S1 D2 P2 M2 G2 A2 L2 S2∧zt A1 L1 S1 12∧zt A2 L2 S2 12 ∧
  ze A1 L1 S1=T∧zb S1=N∧ze A2 L2 S2=T2∧zb S2=N2∧Sd12 W Wb R1 v1 g1 T N∧Sd12 W Vb R2 v2 g2 T2 N2∧w0.heap.size≤Wb∧w0.heap.size≤Vb∧Wb≠Vb
section
variable {w0 W W':World} {D1 D2 Wb Vb:Nat} {T T2:yi} {N N2:List (List UInt8)}
theorem LoopH12.flip (h:LoopH12 w0 D1 D2 Wb Vb T N T2 N2 W):LoopH12 w0 D2 D1 Vb Wb T2 N2 T N W:=by
 obtain ⟨P1,M1,G1,A1,L1,S1,P2,M2,G2,A2,L2,S2,R1,v1,g1,R2,v2,g2,hp,h1,h2,e1,e2,e3,e4,s1,s2,b1,b2,hne⟩:=h
 exact ⟨P2,M2,G2,A2,L2,S2,P1,M1,G1,A1,L1,S1,R2,v2,g2,R1,v1,g1,hp.flip,h2,h1,e3,e4,e1,e2,s2,s1,b2,b1,hne.symm⟩
theorem LoopH12.later (h:LoopH12 w0 D1 D2 Wb Vb T N T2 N2 W) (hb:Below W.heap.size W W'):LoopH12 w0 D1 D2 Wb Vb T N T2 N2 W':=by
 obtain ⟨P1,M1,G1,A1,L1,S1,P2,M2,G2,A2,L2,S2,R1,v1,g1,R2,v2,g2,hp,h1,h2,e1,e2,e3,e4,s1,s2,b⟩:=h
 exact ⟨P1,M1,G1,A1,L1,S1,P2,M2,G2,A2,L2,S2,R1,v1,g1,R2,v2,g2,hp.later hb,h1,h2,e1,e2,e3,e4,s1.later hb,s2.later hb,b⟩
theorem LoopH12.below (h:LoopH12 w0 D1 D2 Wb Vb T N T2 N2 W):Below w0.heap.size w0 W:=by
 obtain ⟨P1,M1,G1,A1,L1,S1,P2,M2,G2,A2,L2,S2,R1,v1,g1,R2,v2,g2,hp,h⟩:=h
 exact hp.below
theorem LoopH12.bytes (h:LoopH12 w0 D1 D2 Wb Vb T N T2 N2 W) (h5:ud w0):Calls Tryz.prog 34 #[.pointer (some ⟨D1,0,none⟩)] W (Told6 W (folT12 T N)):=by
 obtain ⟨P1,M1,G1,A1,L1,S1,P2,M2,G2,A2,L2,S2,R1,v1,g1,R2,v2,g2,hp,h1,h2,rfl,rfl,h⟩:=h
 exact fa hp.fst h1 (h5.later hp.below)
theorem LoopH12.does (h:LoopH12 w0 D1 D2 Wb Vb T N T2 N2 W) (h5:ud w0) (Ab kd:Nat) (a b:ByteArray) (z:Bool) (hac:xS W Ab kd a b z) (ha:a.size≤50) (hb:b.size≤50) :
  ∃ B1 n1 C1 B2 n2 C2,yj W Wb (.slice B1 n1 C1) (.slice B2 n2 C2) ∧
   Calls Tryz.prog 14 #[.pointer (some ⟨D1,0,none⟩),.agg #[.slice B1 n1 C1,.slice B2 n2 C2],.agg #[.int .u8 (kd:Int),.string a,.string b,.bool z]] W fun e w' =>
    ∃ B3 n3 C3 B4 n4 C4,e=.returned (.tuple #[.agg #[.slice B3 n3 C3,.slice B4 n4 C4],.bool true])∧yj w' Wb (.slice B1 n1 C1) (.slice B2 n2 C2) ∧
     Hid (LoopH12 w0 D1 D2 Wb Vb (dedT12 (kd % 11) a.data.toList b.data.toList z T N) (dedN12 (kd % 11) a.data.toList N) T2 N2 ((w'.setCell ⟨Wb,0,none⟩ (.slice B3 n3 C3)).setCell ⟨Wb,1,none⟩ (.slice B4 n4 C4))) ∧
     Hid (xS ((w'.setCell ⟨Wb,0,none⟩ (.slice B3 n3 C3)).setCell ⟨Wb,1,none⟩ (.slice B4 n4 C4)) Ab kd a b z):=by
 obtain ⟨P1,M1,G1,A1,L1,S1,P2,M2,G2,A2,L2,S2,R1,v1,g1,R2,v2,g2,hp,h1,h2,rfl,rfl,e3,e4,s1,s2,b1,b2,hne⟩:=h
 obtain ⟨B1,C1,rfl⟩:=s1.rc.rw.us.shape
 obtain ⟨B2,C2,rfl⟩:=s1.nm.shape
 have hab:Ab≠Wb:=qv (show W.heap[Ab]? = _ from hac) (show W.heap[Wb]? = _ from s1.bx) (by decide)
 refine ⟨B1,R1.length,C1,B2,(zb S1).length,C2,s1.bx,(pair_do12 R1 _ _ kd a b z hp h1 h5 s1.rc s1.nm s1.pl ha hb).mono ?_⟩
 rintro e w' ⟨A,L,S,R,v,vg,rfl,hpp,hg,hr,hn,hpl,hk,hd1,hd2⟩
 obtain ⟨B3,C3,rfl⟩:=hr.rw.us.shape
 obtain ⟨B4,C4,rfl⟩:=hn.shape
 have hx:=s1.bx.keeps11 hk
 have hx2:=hx.set0 (.slice B3 R.length C3)
 have hkg:zO w' ((w'.setCell ⟨Wb,0,none⟩ (.slice B3 R.length C3)).setCell ⟨Wb,1,none⟩ (.slice B4 (zb S).length C4)):=(hx.keep 0 _).trans (hx2.keep 1 _)
 have hac':xS w' Ab kd a b z:=hk _ _ _ _ hac (by decide) (by decide) (by decide)
 refine ⟨B3,R.length,C3,B4,(zb S).length,C4,rfl,hx,⟨P1,M1,G1,A,L,S,P2,M2,G2,A2,L2,S2,R,_,_,R2,v2,g2,(hpp.cell11 hx b1 _).cell11 hx2 b1 _,hg,h2,hd1,hd2,e3,e4,⟨hx2.set1 _,hr.keepD11 hkg,?_,hpl.trans hd1⟩,((s2.keeps hk).other hx hne.symm 0 _).other hx2 hne.symm 1 _,b1,b2,hne⟩,(hac'.other hab _).other hab _⟩
 rw [← hd2]
 exact hn.keepD11 hkg
theorem LoopH12.box (h:LoopH12 w0 D1 D2 Wb Vb T N T2 N2 W):∃ B1 n1 C1 B2 n2 C2,yj W Wb (.slice B1 n1 C1) (.slice B2 n2 C2):=by
 obtain ⟨P1,M1,G1,A1,L1,S1,P2,M2,G2,A2,L2,S2,R1,v1,g1,R2,v2,g2,hp,h1,h2,e1,e2,e3,e4,s1,_⟩:=h
 obtain ⟨B1,C1,rfl⟩:=s1.rc.rw.us.shape
 obtain ⟨B2,C2,rfl⟩:=s1.nm.shape
 exact ⟨_,_,_,_,_,_,s1.bx⟩
end
def YFa12 (D D2:Nat) (v vg:Value) (x1 x2:List UInt8) (q:Bool):Nat→Value→World→Prop
 | 1,u,W=>Rd W u x1
 | 2,u,_=>u=.string ⟨x1.toArray⟩
 | 3,u,_=>u=.pointer (some ⟨D2,0,none⟩)
 | 4,u,W=>Rd W u x2
 | 5,u,_=>u=.string ⟨x2.toArray⟩
 | 6,u,_=>u=.bool q
 | 7,u,_=>u=.pointer (some ⟨D2,0,none⟩)
 | 8,u,_=>u=.agg #[v,vg]
 | 9,u,_=>u=.bool q
 | 10,u,_=>u=.bool false
 | _,u,_=>u=.pointer (some ⟨D,0,none⟩)
theorem YFa12_keep {D D2:Nat} {v vg:Value} {x1 x2:List UInt8} {q:Bool} {W W':World} (hb:Below W.heap.size W W') (j:Nat) (u:Value) (h:YFa12 D D2 v vg x1 x2 q j u W):YFa12 D D2 v vg x1 x2 q j u W':=by
 by_cases h1:j=1
 ·
  subst h1
  exact Rd.still (show Rd W u x1 from h) (zm.of_below hb _)
 by_cases h4:j=4
 ·
  subst h4
  exact Rd.still (show Rd W u x2 from h) (zm.of_below hb _)
 revert h
 unfold YFa12
 split <;> first | exact id | (exfalso; omega)
def YFc12 (D D2:Nat) (x1:List UInt8):Nat→Value→World→Prop
 | 0,u,_=>u=.bool true
 | 3,u,_=>u=.bool true
 | 7,u,_=>u=.pointer (some ⟨D,0,none⟩)
 | 8,u,W=>Rd W u x1
 | 9,u,_=>u=.string ⟨x1.toArray⟩
 | 10,u,_=>u=.pointer (some ⟨D2,0,none⟩)
 | 11,u,W=>Rd W u x1
 | 12,u,_=>u=.string ⟨x1.toArray⟩
 | _,u,_=>u=.bool false
theorem YFc12_keep {D D2:Nat} {x1:List UInt8} {W W':World} (hb:Below W.heap.size W W') (j:Nat) (u:Value) (h:YFc12 D D2 x1 j u W):YFc12 D D2 x1 j u W':=by
 by_cases h1:j=8
 ·
  subst h1
  exact Rd.still (show Rd W u x1 from h) (zm.of_below hb _)
 by_cases h4:j=11
 ·
  subst h4
  exact Rd.still (show Rd W u x1 from h) (zm.of_below hb _)
 revert h
 unfold YFc12
 split <;> first | exact id | (exfalso; omega)

set_option maxRecDepth 100000 in
theorem fapart12_walk (A A':Option Addr) (c c' n n':Nat) (l l2:List Jk) (w:World) (hm:ud w) (hl:n=l.length) (hn:n≤9223372036854775807) (hr:RdAN w A l) (hl2:n'=l2.length) (hn2:n'≤9223372036854775807) (hr2:RdAN w A' l2) :
  Calls Tryz.prog 9 #[.slice A n c,.slice A' n' c'] w (zV true w):=by
 have hnot:∀ (x:Bool) (w:World),(Op.unary .not (.bool x)).run Tryz.prog w=.ok (.bool (!x)) w:=fun _ _=>rfl
 have HV:Hid (∀ W,Below w.heap.size w W→Calls Tryz.prog 32 #[] W (zV true W)):=fun W hb=>lives12_calls W (hm.later hb)
 have HPL:Hid (n≤60→(∀ t∈l,t.nm.size≤50∧t.hs.size≤50)→∀ W,Below w.heap.size w W→Calls Tryz.prog 33 #[.slice A n c] W (Played12 W n)):=fun h1 h2 W hb=>played12_calls A c n l W (hm.later hb) hl h1 h2 (hr.later hb)
 have HPL2:Hid (n'≤60→(∀ t∈l2,t.nm.size≤50∧t.hs.size≤50)→∀ W,Below w.heap.size w W→Calls Tryz.prog 33 #[.slice A' n' c'] W (Played12 W n')):=fun h1 h2 W hb=>played12_calls A' c' n' l2 W (hm.later hb) hl2 h1 h2 (hr2.later hb)
 have HF:Hid (∀ W,Below w.heap.size w W→Calls Tryz.prog 12 #[.slice A n c] W (zV (Y1 l) W)):=fun W hb=>few11L_calls A c n l W hl hn (hr.later hb)
 have HF2:Hid (∀ W,Below w.heap.size w W→Calls Tryz.prog 12 #[.slice A' n' c'] W (zV (Y1 l2) W)):=fun W hb=>few11L_calls A' c' n' l2 W hl2 hn2 (hr2.later hb)
 have HFW:Hid (Y1 l=true→n≤60∧∀ t∈l,t.nm.size≤50∧t.hs.size≤50):=fun h=>⟨by rw [hl]; exact few11L_len h,few11L_size h⟩
 have HFW2:Hid (Y1 l2=true→n'≤60∧∀ t∈l2,t.nm.size≤50∧t.hs.size≤50):=fun h=>⟨by rw [hl2]; exact few11L_len h,few11L_size h⟩
 have HR2:=za hr2
 have HL2:=za hl2
 have H5:=za hm
 clear hr hl hm hr2 hl2 hn hn2
 generalize Y1 l=fw at *
 generalize Y1 l2=fw2 at *
 have hzd:∀ w:World,(zeroValue zn).run Tryz.prog w=.ok (.agg #[.slice none 0 0,.slice none 0 0]) w:=fun w=>by kernel_rfl
 go_enter Tryz.func9,Tryz.ntmps9
 go_wp2_with fail
 with_reducible refine (HV.out w (Below.refl _ _)).mono ?_
 rintro e w1 ⟨rfl,hb⟩
 have HB1:=za hb
 clear hb
 go_wp2_with fail
 with_reducible refine (HF.out w1 HB1.out).mono ?_
 rintro e w2 ⟨rfl,hb⟩
 have HB2:=za (z8 HB1.out hb)
 clear hb HF HB1
 have BAD:Hid (∀ W,Below w.heap.size w W→Calls Tryz.prog 32 #[] W fun e w'=>e=.returned (.bool true)∧Hid (Below w.heap.size w w')):=fun W hb=>(HV.out W hb).mono fun e w' ⟨he,hb'⟩=>⟨he,z8 hb hb'⟩
 clear HV
 cases fw with
 | false =>
  go_wp2_with fail
  with_reducible refine (BAD.out w2 HB2.out).mono ?_
  rintro e w3 ⟨rfl,HB3⟩
  go_wp2
  go_ret
  exact ⟨rfl,HB3.out⟩
 | true =>
 go_wp2_with fail
 with_reducible refine (HF2.out w2 HB2.out).mono ?_
 rintro e w2b ⟨rfl,hb⟩
 have HB2b:=za (z8 HB2.out hb)
 clear hb HF2 HB2
 cases fw2 with
 | false =>
  go_wp2_with fail
  with_reducible refine (BAD.out w2b HB2b.out).mono ?_
  rintro e w3 ⟨rfl,HB3⟩
  go_wp2
  go_ret
  exact ⟨rfl,HB3.out⟩
 | true =>
 obtain ⟨hn60,hsz⟩:=HFW.out (by first | rfl | trivial)
 obtain ⟨hn60b,hszb⟩:=HFW2.out (by first | rfl | trivial)
 have HSZ:=za hsz
 have HSZ2:=za hszb
 clear HFW HFW2 hsz hszb BAD
 have HP2:=za (HPL.out hn60 HSZ.out w2b HB2b.out)
 clear HPL HSZ
 go_wp2_with fail
 with_reducible refine HP2.out.mono ?_
 rintro e w3 ⟨D,T,N,A1,n1,C1,A2,n2,C2,rfl,hbo⟩
 have hbx:=z7 (Below.refl w3.heap.size w3) (.cells #[.slice A1 n1 C1,.slice A2 n2 C2] zn)
 have HB4:=za (z8 (z8 HB2b.out hbo.below) hbx)
 have HBO:=za (hbo.later hbx)
 have HX4:=za (zp w3 (.slice A1 n1 C1) (.slice A2 n2 C2))
 have HZB:Hid (w2b.heap.size≤w3.heap.size):=hbo.below.size
 have HP3:=za (HPL2.out hn60b HSZ2.out (w3.alloc (.cells #[.slice A1 n1 C1,.slice A2 n2 C2] zn)) HB4.out)
 clear hbo hbx HPL2 HP2
 go_wp2_with fail
 generalize w3.alloc (.cells #[.slice A1 n1 C1,.slice A2 n2 C2] zn)=w4 at *
 generalize w3.heap.size=Wb at *
 with_reducible refine HP3.out.mono ?_
 rintro e w5 ⟨D2,T2,N2,B1,m1,E1,B2,m2,E2,rfl,hbo2⟩
 have HB5:=za (z8 HB4.out hbo2.below)
 have HBO5:=za (HBO.out.later hbo2.below)
 have HX5:=za (HX4.out.later hbo2.below)
 have HBQ:=za hbo2
 clear hbo2 HP3 HBO HX4 HB4
 have HB56:Hid (Below w5.heap.size w5 (w5.alloc (.cells #[.slice B1 m1 E1,.slice B2 m2 E2] zn))):=z7 (Below.refl _ _) _
 have HBO6:=za (HBO5.out.later HB56.out)
 have HBQ6:=za (HBQ.out.later HB56.out)
 have HX6:=za (HX5.out.later HB56.out)
 have HB6:=za (z8 HB5.out HB56.out)
 have H56:=za (H5.out.later HB6.out)
 clear HBO5 HX5 HB5 HB56
 obtain ⟨q,hq⟩:∃ q,q=decide (T2=T∧N2=N):=⟨_,rfl⟩
 have HEQ:Hid ((folT12 T N == folT12 T2 N2)=q):=by
  rw [hq]
  show _=_
  rw [Bool.eq_iff_iff,beq_iff_eq,decide_eq_true_iff]
  exact fold_inj12 HBO6.out.of HBQ6.out.of
 have HBA:Hid (∀ W,Below (w5.alloc (.cells #[.slice B1 m1 E1,.slice B2 m2 E2] zn)).heap.size (w5.alloc (.cells #[.slice B1 m1 E1,.slice B2 m2 E2] zn)) W→Calls Tryz.prog 34 #[.pointer (some ⟨D,0,none⟩)] W (Told6 W (folT12 T N))):=fun W hb=>(HBO6.out.later hb).bytes (H56.out.later hb)
 have HBB:Hid (∀ W,Below (w5.alloc (.cells #[.slice B1 m1 E1,.slice B2 m2 E2] zn)).heap.size (w5.alloc (.cells #[.slice B1 m1 E1,.slice B2 m2 E2] zn)) W→Calls Tryz.prog 34 #[.pointer (some ⟨D2,0,none⟩)] W (Told6 W (folT12 T2 N2))):=fun W hb=>(HBQ6.out.later hb).bytes (H56.out.later hb)
 have HSM:Hid (∀ W,Below (w5.alloc (.cells #[.slice B1 m1 E1,.slice B2 m2 E2] zn)).heap.size (w5.alloc (.cells #[.slice B1 m1 E1,.slice B2 m2 E2] zn)) W→Calls Tryz.prog 15 #[.pointer (some ⟨D2,0,none⟩),.agg #[.slice A1 n1 C1,.slice A2 n2 C2]] W (zV q W)):=fun W hb=>by
  obtain ⟨_,_,_,_,_,_,R0,_,g1,r1,r2,r3,r4,r5⟩:=HBO6.out.later hb
  obtain ⟨_,_,_,_,_,_,_,o2,g2,_,_,_,t4,t5⟩:=HBQ6.out.later hb
  have hsh:=short11 g1
  rw [r4] at hsh
  have hnl:N.length≤1000:=by rw [← r5,yA]; have:=g1.grp.few; omega
  have:=lsame12_calls o2 g2 r1 r2 r3 hsh hnl
  rwa [t4,t5,← hq] at this
 clear hq HBQ HBQ6
 go_wp2_with fail
 generalize hw6:w5.alloc (.cells #[.slice B1 m1 E1,.slice B2 m2 E2] zn)=w6 at *
 clear hw6
 generalize hx1:folT12 T N=x1 at HEQ HBA
 generalize folT12 T2 N2=x2 at HEQ HBB
 refine xK (by kernel_rfl) (fun W=>Below w6.heap.size w6 W) (YFa12 D D2 (.slice A1 n1 C1) (.slice A2 n2 C2) x1 x2 q) ?F ?hF (by kernel_rfl) (by kernel_rfl) (zS (Below.refl _ _)) ?step ?fin
 case hF =>
  intro x
  simp only [List.map_cons,List.map_nil,vI,Act.put,List.setIfInBounds_toArray,List.set_cons_zero,List.set_cons_succ,Nat.zero_add,Nat.reduceAdd]
  exact rfl
 case step =>
  refine ⟨?_,?_,?_,?_,?_,?_,?_,?_,?_,?_,?_,trivial⟩
  all_goals intro x W hW hdep K hK
  ·
   clear hdep
   go_simp
   exact hK _ _ rfl hW (fun _ _ h=>h)
  ·
   have h0:x 0=_:=hdep 0 rfl
   clear hdep
   simp only [h0] at hK
   go_simp
   refine (HBA.out W hW).mono ?_
   rintro e W' ⟨v',rfl,ho,_,hb⟩
   exact hK _ _ (Rd.of_own ho) (z8 hW hb) (fun j z h=>YFa12_keep hb j z h)
  ·
   have h1:Rd W (x 1) x1:=hdep 1 rfl
   have hs:=h1.string (P:=Tryz.prog) (src:=66) (dst:=9) Tryz.underlying66 Tryz.underlying5 Tryz.underlying9
   clear hdep
   go_simp
   exact hK _ _ rfl hW (fun _ _ h=>h)
  ·
   clear hdep
   go_simp
   exact hK _ _ rfl hW (fun _ _ h=>h)
  ·
   have h3:x 3=_:=hdep 3 rfl
   clear hdep
   simp only [h3] at hK
   go_simp
   refine (HBB.out W hW).mono ?_
   rintro e W' ⟨v',rfl,ho,_,hb⟩
   exact hK _ _ (Rd.of_own ho) (z8 hW hb) (fun j z h=>YFa12_keep hb j z h)
  ·
   have h4:Rd W (x 4) x2:=hdep 4 rfl
   have hs:=h4.string (P:=Tryz.prog) (src:=66) (dst:=9) Tryz.underlying66 Tryz.underlying5 Tryz.underlying9
   clear hdep
   go_simp
   exact hK _ _ rfl hW (fun _ _ h=>h)
  ·
   have h2:x 2=_:=hdep 2 rfl
   have h5:x 5=_:=hdep 5 rfl
   have he:=HEQ.out
   clear hdep
   simp only [h2,h5] at hK
   go_simp
   exact hK _ _ rfl hW (fun _ _ h=>h)
  ·
   clear hdep
   go_simp
   exact hK _ _ rfl hW (fun _ _ h=>h)
  ·
   have hx:=HX6.out.later hW
   have k0:=hx.c0
   have k1:=hx.c1
   clear hdep hx
   go_simp
   exact hK _ _ rfl hW (fun _ _ h=>h)
  ·
   have h7:x 7=_:=hdep 7 rfl
   have h8:x 8=_:=hdep 8 rfl
   clear hdep
   simp only [h7,h8] at hK
   go_simp
   refine (HSM.out W hW).mono ?_
   rintro e W' ⟨rfl,hb⟩
   exact hK _ _ rfl (z8 hW hb) (fun j z h=>YFa12_keep hb j z h)
  ·
   have h6:x 6=_:=hdep 6 rfl
   have h9:x 9=_:=hdep 9 rfl
   have hqq:(q != q)=false:=by cases q <;> rfl
   clear hdep
   simp only [h6,h9] at hK
   go_simp
   exact hK _ _ (show _=Value.bool false by cases q <;> rfl) hW (fun _ _ h=>h)
 case fin =>
  intro x W hW hY
  have h10:x 10=.bool false:=hY 10 (by decide)
  have HB67:=za hW
  have HBY:=za ((HBO6.out.later hW).bytes (H56.out.later hW))
  rw [hx1] at HBY
  have hzz:=HBO6.out.of
  have hlen:x1.length≤1733:=by rw [← hx1]; exact folB_length (may12 hzz)
  have HRD0:Hid (FL x1=(0,T.map vh,N.map zF)):=by
   have:=read12_put hzz
   rw [us_nrm12] at this
   rw [← hx1]
   exact this
  clear hY hW HBA HBB HSM HEQ hzz
  rw [h10]
  go_wp2_with fail
  with_reducible refine HBY.out.mono ?_
  rintro e w8 ⟨v8,rfl,ho8,_,hb⟩
  have HB68:=za (z8 HB67.out hb)
  have HR8:=za (Rd.of_own ho8)
  obtain ⟨A8,c8,rfl⟩:=vP ho8
  have HRD:=za (fread12_calls _ x1 w8 HR8.out (by omega) (H56.out.later HB68.out))
  rw [HRD0.out] at HRD
  clear hb ho8 HBY HRD0 HB67 HR8
  generalize hlx:x1.length=mm at *
  clear hlx hlen hx1
  go_wp2_with fail
  with_reducible refine HRD.out.mono ?_
  rintro e w9 h9
  clear HRD
  rcases h9 with ⟨hne,_⟩ | ⟨_,D3,P3,M3,G3,A3,L3,S3,k3,rfl,hown,hst,hk3⟩
  ·
   exact absurd rfl hne
  have hb89:=hown.below
  have hbx9:=z7 (Below.refl w9.heap.size w9) (.cells #[.slice A1 n1 C1,.slice A2 n2 C2] zn)
  have hx9:=(HX6.out.later HB68.out).later hb89
  have HLH:Hid (LoopH12 w2b D D3 Wb w9.heap.size T N T N (w9.alloc (.cells #[.slice A1 n1 C1,.slice A2 n2 C2] zn))):=by
   obtain ⟨P,M,G,Aa,L,S,R0,o1,g1,r1,r2,r3,r4,r5⟩:=HBO6.out.later HB68.out
   have hp:=uc.make o1 hown
   exact ⟨P,M,G,Aa,L,S,P3,M3,G3,A3,L3,S3,R0,_,_,R0,_,_,hp.later hbx9,g1.trim,hst.1.1.trim,r4,r5,hst.1.2.1.trans (plU_usOf12 T),hst.1.2.2.trans (Fv N),⟨hx9.later hbx9,(r1.later hb89).later hbx9,(r2.later hb89).later hbx9,r3⟩,⟨zp w9 _ _,(r1.later hb89).later hbx9,(r2.later hb89).later hbx9,r3⟩,HZB.out,hp.below.size,Nat.ne_of_lt hx9.lt⟩
  have k0:=hx9.c0
  have k1:=hx9.c1
  have H52:=za (H5.out.later HB2b.out)
  clear hown hst hb89 hbx9 hx9 HBO6 HX6 HB68 HB6 H56 HZB
  go_wp2_with fail
  clear hzd k0 k1
  generalize w9.alloc (.cells #[.slice A1 n1 C1,.slice A2 n2 C2] zn)=w10 at *
  generalize w9.heap.size=Vb at *
  go_loopg [13,14,15,65] n' (fun gg _ _ _ s65 wr=>∃ k:Nat,k≤n'∧n' - k≤gg∧s65=.int .i64 k∧Hid (∃ T N,LoopH12 w2b D D3 Wb Vb T N T N wr))
  case atStart=>exact ⟨0,Nat.zero_le _,by omega,rfl,_,_,HLH.out⟩
  case round =>
   clear HLH
   obtain ⟨k,hk,hg,rfl,HW⟩:=hrel
   by_cases hlt:k<n'
   ·
    have hltz:(k:Int)<(n':Int):=by omega
    have hkl:k<l2.length:=HL2.out ▸ hlt
    obtain ⟨T0,N0,hloop⟩:=HW.out
    obtain ⟨b,off,rfl,hb,hc⟩:=(HR2.out.later (z8 HB2b.out hloop.below)) (by intro e; rw [e] at hkl; exact absurd hkl (Nat.not_lt_zero _))
    have c0:wr.cell? ⟨b,off+k * 4,none⟩=some (.int .u8 (l2[k].kd:Int)):=hc k hkl 0 _ rfl
    have c1:wr.cell? ⟨b,off+k * 4+1,none⟩=some (.string l2[k].nm):=hc k hkl 1 _ rfl
    have c2:wr.cell? ⟨b,off+k * 4+2,none⟩=some (.string l2[k].hs):=hc k hkl 2 _ rfl
    have c3:wr.cell? ⟨b,off+k * 4+3,none⟩=some (.bool l2[k].is_):=hc k hkl 3 _ rfl
    have hbv:=z7 (Below.refl wr.heap.size wr) (.cells #[.int .u8 (l2[k].kd:Int),.string l2[k].nm,.string l2[k].hs,.bool l2[k].is_] 32)
    obtain ⟨hs1,hs2⟩:=HSZ2.out _ (List.getElem_mem hkl)
    have HAV:=za (act11_new wr l2[k].kd l2[k].nm l2[k].hs l2[k].is_)
    obtain ⟨F1,g1,K1,F2,g2,K2,hx,hdo⟩:=(hloop.later hbv).does H52.out wr.heap.size l2[k].kd l2[k].nm l2[k].hs l2[k].is_ HAV.out hs1 hs2
    have HDO:=za hdo
    have x0:=hx.c0
    have x1:=hx.c1
    have xl:Wb<wr.heap.size:=by
     obtain ⟨_,_,_,_,_,_,h⟩:=hloop.box
     exact h.lt
    have av0:=HAV.out.c0
    have av1:=HAV.out.c1
    have av2:=HAV.out.c2
    have av3:=HAV.out.c3
    have HS1:=za hs1
    have HS2:=za hs2
    clear hc hb hloop hx hdo hs1 hs2 HW HAV
    generalize l2[k].kd=kd at *
    generalize l2[k].nm=nm at *
    generalize l2[k].hs=hs at *
    generalize l2[k].is_=is_ at *
    clear hkl
    obtain ⟨Ab,hab⟩:∃ Ab,Ab=wr.heap.size:=⟨_,rfl⟩
    go_wp2_with fail
    with_reducible refine HDO.out.mono ?_
    rintro e w11 ⟨F3,g3,K3,F4,g4,K4,rfl,hx,HL2a,HA2a⟩
    have r0:=hx.c0
    have r1:=hx.c1
    have rf0:=hx.f0
    have rf1:=hx.f1
    obtain ⟨F5,g5,K5,F6,g6,K6,hy,hdo⟩:=HL2a.out.flip.does H52.out wr.heap.size kd nm hs is_ HA2a.out HS1.out HS2.out
    have HDO2:=za hdo
    have y0:=hy.c0
    have y1:=hy.c1
    have b0:=HA2a.out.c0
    have b1:=HA2a.out.c1
    have b2:=HA2a.out.c2
    have b3:=HA2a.out.c3
    clear hx hy hdo HL2a HA2a HDO x0 x1 xl av0 av1 av2 av3 c0 c1 c2 c3
    go_wp2_with fail
    with_reducible refine HDO2.out.mono ?_
    rintro e w12 ⟨F7,g7,K7,F8,g8,K8,rfl,hz,HL3,HA3⟩
    generalize dedT12 (kd % 11) nm.data.toList hs.data.toList is_ T0 N0=T1 at *
    generalize dedN12 (kd % 11) nm.data.toList N0=N1 at *
    have r0:=hz.c0
    have r1:=hz.c1
    have rf0:=hz.f0
    have rf1:=hz.f1
    have HBA:Hid (∀ W,Below ((w12.setCell ⟨Vb,0,none⟩ (.slice F7 g7 K7)).setCell ⟨Vb,1,none⟩ (.slice F8 g8 K8)).heap.size ((w12.setCell ⟨Vb,0,none⟩ (.slice F7 g7 K7)).setCell ⟨Vb,1,none⟩ (.slice F8 g8 K8)) W→Calls Tryz.prog 34 #[.pointer (some ⟨D,0,none⟩)] W (Told6 W (folT12 T1 N1))):=fun W hb=>(HL3.out.flip.later hb).bytes H52.out
    have HBC:Hid (∀ W,Below ((w12.setCell ⟨Vb,0,none⟩ (.slice F7 g7 K7)).setCell ⟨Vb,1,none⟩ (.slice F8 g8 K8)).heap.size ((w12.setCell ⟨Vb,0,none⟩ (.slice F7 g7 K7)).setCell ⟨Vb,1,none⟩ (.slice F8 g8 K8)) W→Calls Tryz.prog 34 #[.pointer (some ⟨D3,0,none⟩)] W (Told6 W (folT12 T1 N1))):=fun W hb=>(HL3.out.later hb).bytes H52.out
    have HLN:=za HL3.out.flip
    clear hz HL3 HA3 HDO2 y0 y1 b0 b1 b2 b3
    generalize folT12 T1 N1=z1 at HBA HBC
    go_wp2_with fail
    generalize (w12.setCell ⟨Vb,0,none⟩ (.slice F7 g7 K7)).setCell ⟨Vb,1,none⟩ (.slice F8 g8 K8)=w13 at *
    refine xK (by kernel_rfl) (fun W=>Below w13.heap.size w13 W) (YFc12 D D3 z1) ?F2 ?hF2 (by kernel_rfl) (by kernel_rfl) (zS (Below.refl _ _)) ?step2 ?fin2
    case hF2 =>
     intro x
     simp only [List.map_cons,List.map_nil,vI,Act.put,List.setIfInBounds_toArray,List.set_cons_zero,List.set_cons_succ,Nat.zero_add,Nat.reduceAdd]
     exact rfl
    case step2 =>
     refine ⟨?_,?_,?_,?_,?_,?_,?_,?_,?_,?_,?_,?_,?_,?_,?_,trivial⟩
     all_goals intro x W hW hdep K hK
     ·
      clear hdep
      go_simp
      exact hK _ _ rfl hW (fun _ _ h=>h)
     ·
      have h0:x 0=_:=hdep 0 rfl
      clear hdep
      simp only [h0] at hK
      go_simp
      exact hK _ _ rfl hW (fun _ _ h=>h)
     ·
      have h1:x 1=_:=hdep 1 rfl
      clear hdep
      simp only [h1] at hK
      go_simp
      exact hK _ _ rfl hW (fun _ _ h=>h)
     ·
      have h2:x 2=_:=hdep 2 rfl
      clear hdep
      simp only [h2] at hK
      go_simp
      exact hK _ _ rfl hW (fun _ _ h=>h)
     ·
      have h2:x 2=_:=hdep 2 rfl
      have h3:x 3=_:=hdep 3 rfl
      clear hdep
      simp only [h2,h3] at hK
      go_simp
      exact hK _ _ rfl hW (fun _ _ h=>h)
     ·
      have h2:x 2=_:=hdep 2 rfl
      have h4:x 4=_:=hdep 4 rfl
      clear hdep
      simp only [h2,h4] at hK
      go_simp
      exact hK _ _ rfl hW (fun _ _ h=>h)
     ·
      have h5:x 5=_:=hdep 5 rfl
      clear hdep
      simp only [h5] at hK
      go_simp
      exact hK _ _ rfl hW (fun _ _ h=>h)
     ·
      have h6:x 6=_:=hdep 6 rfl
      clear hdep
      simp only [h6] at hK
      go_simp
      exact hK _ _ rfl hW (fun _ _ h=>h)
     ·
      have h6:x 6=_:=hdep 6 rfl
      have h7:x 7=_:=hdep 7 rfl
      clear hdep
      simp only [h6,h7] at hK
      go_simp
      refine (HBA.out W hW).mono ?_
      rintro e W' ⟨v',rfl,ho,_,hb⟩
      exact hK _ _ (Rd.of_own ho) (z8 hW hb) (fun j z h=>YFc12_keep hb j z h)
     ·
      have h8:Rd W (x 8) z1:=hdep 8 rfl
      have hs:=h8.string (P:=Tryz.prog) (src:=66) (dst:=9) Tryz.underlying66 Tryz.underlying5 Tryz.underlying9
      have h6:x 6=_:=hdep 6 rfl
      clear hdep
      simp only [h6] at hK
      go_simp
      exact hK _ _ rfl hW (fun _ _ h=>h)
     ·
      have h6:x 6=_:=hdep 6 rfl
      clear hdep
      simp only [h6] at hK
      go_simp
      exact hK _ _ rfl hW (fun _ _ h=>h)
     ·
      have h6:x 6=_:=hdep 6 rfl
      have h10:x 10=_:=hdep 10 rfl
      clear hdep
      simp only [h6,h10] at hK
      go_simp
      refine (HBC.out W hW).mono ?_
      rintro e W' ⟨v',rfl,ho,_,hb⟩
      exact hK _ _ (Rd.of_own ho) (z8 hW hb) (fun j z h=>YFc12_keep hb j z h)
     ·
      have h11:Rd W (x 11) z1:=hdep 11 rfl
      have hs:=h11.string (P:=Tryz.prog) (src:=66) (dst:=9) Tryz.underlying66 Tryz.underlying5 Tryz.underlying9
      have h6:x 6=_:=hdep 6 rfl
      clear hdep
      simp only [h6] at hK
      go_simp
      exact hK _ _ rfl hW (fun _ _ h=>h)
     ·
      have h6:x 6=_:=hdep 6 rfl
      have h9:x 9=_:=hdep 9 rfl
      have h12:x 12=_:=hdep 12 rfl
      clear hdep
      simp only [h6,h9,h12] at hK
      go_simp
      exact hK _ _ rfl hW (fun _ _ h=>h)
     ·
      have h6:x 6=_:=hdep 6 rfl
      have h13:x 13=_:=hdep 13 rfl
      clear hdep
      simp only [h6,h13] at hK
      go_simp
      exact hK _ _ rfl hW (fun _ _ h=>h)
    case fin2 =>
     intro x W hW hY
     have h14:x 14=.bool false:=hY 14 (by decide)
     have HLW:Hid (∃ T N,LoopH12 w2b D D3 Wb Vb T N T N W):=⟨_,_,HLN.out.later hW⟩
     clear hY hW HBA HBC HLN
     rw [h14]
     go_wp2
     go_roundg (n' - (k+1))
     case measure=>omega
     case rel=>exact ⟨k+1,by omega,by omega,by go_num,HLW⟩
   ·
    have hltz:¬ (k:Int)<(n':Int):=by omega
    have HBE:Hid (Below w.heap.size w wr):=by
     obtain ⟨_,_,h⟩:=HW.out
     exact z8 HB2b.out h.below
    clear HW
    go_wp2
    go_ret
    exact ⟨rfl,HBE.out⟩
end Go.Proofs.YtmcomnocpibiiaaGreatDoor
namespace Go.Proofs.YtmcomnocpibiiaaGreatDoor.folioApart
open Go.ChangeShapes Go.WideShapes Go.ChangeAt Go.RowKit
set_option linter.unusedVariables false

theorem own:ownKnob Tryz.prog.godebug=none:=by kernel_rfl
theorem laidOut:laidOutB Tryz.prog=true:=by kernel_rfl

theorem walk (w:World) (hm:ud w) (a0:Option Addr) (len0 cap0:Nat) (l0:List Jk) (s0:IsActsN w a0 len0 l0) (a1:Option Addr) (len1 cap1:Nat) (l1:List Jk) (s1:IsActsN w a1 len1 l1) :
  Calls Tryz.prog 9 #[.slice a0 len0 cap0,.slice a1 len1 cap1] w fun e w'=>e=.returned (.bool true)∧Below w.heap.size w w':=by
 obtain ⟨h1,h2,h3,h4⟩:=s0
 obtain ⟨k1,k2,k3,k4⟩:=s1
 exact fapart12_walk a0 a1 cap0 cap1 len0 len1 l0 l1 w hm h1 (by omega) h3 k1 (by omega) k3

set_option maxRecDepth 100000 in
theorem lifted (os:Os) (started:os.Started) (H:Type) (enc:TypeId×Value→H) :
  ReturnsInHanded {} Tryz.checked os 9 .any (fun w args=>(Rows.folioApartSpec.pre enc Tryz.prog Tryz.f9 Rows.folioApartRow.domain false w args∧laidMetH Tryz.prog Rows.folioApartRow.laid w)∧sizedMet enc Tryz.prog Tryz.f9 (OpenSpec.ofChange Rows.folioApartSpec) false w args)
   (Rows.folioApartSpec.post enc Tryz.prog Tryz.f9 false true false false):=by
 refine returns_laid (C:=Tryz.checked) (X:=fun w _=>laidMetH Tryz.prog Rows.folioApartRow.laid w) own started (by kernel_rfl) Tryz.func9
  (ChangeSpec.witness_shaped (enc:=enc) (C:=Tryz.checked) (os:=os) (X:=fun w _=>laidMetH Tryz.prog Rows.folioApartRow.laid w) false (World.laidAll Tryz.prog os Rows.folioApartRow.laid) #[.slice none 0 0,.slice none 0 0] 8 (World.laidAll_os _ _ _)
   (World.shaped_of_ZipB (by kernel_rfl) (by kernel_rfl)) (by kernel_rfl) (by kernel_rfl) (by kernel_rfl)
   (by rw [MakeChecks.laidMetH_plain _ _ _ (by kernel_rfl)]; exact laidMet_laidAll _ (by kernel_rfl) (by kernel_rfl))) ?_
 intro W base args ds gs before hval0 hW hsh
 have hval:∀ (j:Nat) t v,Tryz.f9.params[j]? = some t→args[j]? = some v→Value.okWide Tryz.prog W .any base t v:=hval0
 have hW':=hW
 obtain ⟨p,q,hA0,hV,rfl,hfz,hnd⟩:=hW
 have hA:DataW.TrodAll enc Tryz.prog W 0 (fun _=>true) true Tryz.f9.params.toList args.toList ds p:=hA0
 rw [Tryz.params9] at hA hval
 obtain ⟨v0,vs0,d0,ds0,p0,q0,hargs,rfl,rfl,h0,r0⟩:=trodAll_cons hA
 obtain ⟨v1,vs1,d1,ds1,p1,q1,rfl,rfl,rfl,h1,r1⟩:=trodAll_cons r0
 obtain ⟨rfl,rfl,rfl⟩:=trodAll_nil r1
 obtain rfl:args=#[v0,v1]:=by cases args; simp_all
 obtain ⟨rfl,rfl⟩:=trodVars_none hV
 obtain ⟨a0,len0,cap0,rfl⟩:=okWide_slice Tryz.underlying22 (hval 0 22 v0 rfl rfl)
 have lt0:∀ x∈p0,x.block<W.heap.size:=by obtain ⟨m,hm⟩:=h0; exact DataW.trod_lt m _ _ _ hm
 obtain ⟨l0,s0⟩:=actns_of h0
 obtain ⟨a1,len1,cap1,rfl⟩:=okWide_slice Tryz.underlying22 (hval 1 22 v1 rfl rfl)
 have lt1:∀ x∈p1,x.block<W.heap.size:=by obtain ⟨m,hm⟩:=h1; exact DataW.trod_lt m _ _ _ hm
 obtain ⟨l1,s1⟩:=actns_of h1
 clear hA0 hval0
 refine (walk W (len5_of hsh) a0 len0 cap0 l0 s0 a1 len1 cap1 l1 s1).mono fun e W' ⟨he,bel⟩=>?_
 subst he
 exact ⟨_,rfl,_,_,_,[],_,[],hW',trodAll_mk1 (shut_bool Tryz.underlying4 _),(trodAll_cons_mk (Below.trod laidOut (by kernel_rfl) (of_decide_eq_true (by kernel_rfl)) h0 bel lt0) (trodAll_cons_mk (Below.trod laidOut (by kernel_rfl) (of_decide_eq_true (by kernel_rfl)) h1 bel lt1) trodAll_mk0)),rfl,bel.frame _,fun h=>by cases h⟩

theorem row_holds:Rows.FolioApartSaid :=
 OpenClaim.holds_of_wide 9 Tryz.f9 rfl rfl rfl rfl rfl rfl rfl ⟨rfl,rfl,rfl,rfl,rfl⟩ rfl rfl rfl rfl rfl (by kernel_rfl) Tryz.func9 (by kernel_rfl)
  (of_decide_eq_true (by kernel_rfl)) (by unfold Func.isWrapper; first | (rw [if_pos (by decide +kernel)]; kernel_rfl) | (rw [if_neg (by decide +kernel)]; exact ⟨rfl,rfl⟩))
  (fun os started H enc _=>lifted os started H enc)

theorem proved:Rows.FolioApartCardSaid :=
 Claim7.holds_tied_plain_at .later [] Rows.folioApartCard.laidKinds true Rows.folioApartCard.stood.harness Rows.folioApartCard.stood.looks row_holds (fun _ h=>by cases h) (by kernel_rfl) (fun _ h=>by cases h) folioApart_row_tie rfl ⟨rfl,rfl⟩ (by kernel_rfl) rfl
  (fun f fn hf hfn=>by
   obtain rfl:f=9:=Option.some.inj ((show Tryz.prog.funcNamed Rows.folioApartRow.func=some 9 by kernel_rfl).symm.trans hf) |>.symm
   obtain rfl:fn=Tryz.f9:=(Option.some.inj (Tryz.func9.symm.trans hfn)).symm
   exact ⟨by kernel_rfl,fun j t ht=>by
    rw [Tryz.params9] at ht
    have hm:t∈[22,22]:=by simpa using Array.mem_of_getElem? ht
    have hall:([22,22].all fun u=>!Tryz.prog.wantsStandIn u)=true:=by kernel_rfl
    exact (show Tryz.prog.wantsStandIn t=false by simpa using List.all_eq_true.1 hall t hm)⟩)
  (by kernel_rfl)
end Go.Proofs.YtmcomnocpibiiaaGreatDoor.folioApart
