/-
  What this law alone needs, the law walked, and its statement.
  Conditions: each theorem's own.
-/
import Derived.Test.YtmcomnocpibiiaaGreatDoorCards
import Derived.Test.YtmcomnocpibiiaaGreatDoorTie
import Derived.Test.YtmcomnocpibiiaaGreatDoorFolBBK
set_option maxHeartbeats 16000000
namespace Go.Proofs.YtmcomnocpibiiaaGreatDoor
open Go.RowKit Go.Maps Go.Sort Go.Shelf
set_option linter.unusedVariables false

theorem rc_ok12 {W:World} {A:zM} {L:zT} {S:zv} {k:Nat} {R:zJ W11} {v:Value} (hr:xV 0 R W v) (hp:zc R=ze A L S) (hg:zu A L S k):∀ u∈R.map J8,u.Ok W:=fun u hu=>by
 have hs:=short11 hg
 obtain ⟨q,hq,rfl⟩:=List.mem_map.1 hu
 have hm:(q.1,q.2.u)∈ze A L S:=by rw [← hp]; exact List.mem_map.2 ⟨q,hq,rfl⟩
 have a2:=hs.hs _ hm
 have a3:=hs.ml _ hm
 exact us11_ok (hr.2 q hq) (hs.nm _ hm) (by rw [← zw]; exact a2) (by rw [← zw]; exact a3) (hs.gs _ hm)
theorem us_nrm12 (T:yH):(T.map vN).map yy=T.map vN:=by
 rw [List.map_map]
 exact List.map_congr_left fun p _=>rfl
section
variable {w0 W:World} {D k:Nat} {T:yH} {N:List (List UInt8)} {v vg:Value}
theorem VA.of (h:VA w0 D T N v vg k W):u7 (T.map vN) (N.map zI)=0:=by
 obtain ⟨P,M,G,A,L,S,R,_,h2,_,_,_,rfl,rfl⟩:=h
 exact good_of12 h2
theorem VA.bytes (h:VA w0 D T N v vg k W) (h5:vX W):Calls Tryz.prog 34 #[.pointer (some ⟨D,0,none⟩)] W (Told6 W (FO T N)):=by
 obtain ⟨P,M,G,A,L,S,R,h1,h2,_,_,_,rfl,rfl⟩:=h
 exact XJ h1 h2 h5
theorem VA.text {A1 A2:Option Addr} {n1 n2 C1 C2:Nat} (h:VA w0 D T N (.slice A1 n1 C1) (.slice A2 n2 C2) k W):Calls Tryz.prog 36 #[.agg #[.slice A1 n1 C1,.slice A2 n2 C2]] W fun e w'=>e=.returned (.string (mk6 (FO T N)))∧Below W.heap.size W w':=by
 have hz:=h.of
 obtain ⟨P,M,G,A,L,S,R,h1,h2,h3,h4,h5,h6,h7⟩:=h
 obtain ⟨A0,c0,e0⟩:=h3.rw.us.shape
 have hu:=h3.rw.us
 have hok:=rc_ok12 h3 (h5.trans h6.symm) h2
 have hpl:uX (R.map J8)=T:=by rw [plU_us12]; exact h5
 have hfo:UC (R.map J8) (N.map zI)=FO T N:=by
  have:=folT_of12 (R.map J8) (N.map zI)
  rw [hpl,Fd] at this
  exact this.symm
 have hnr:(R.map J8).map yy=T.map vN:=by rw [← XR,hpl]
 have hmay:May12 (R.map J8) (N.map zI):=may12 (by rw [← fo,hnr]; exact hz)
 injection e0 with e1 e2 e3
 subst e1 e2 e3
 have hn2:n2=N.length:=by
  obtain ⟨A3,c3,e3⟩:=h4.shape
  injection e3
 rw [← hfo]
 have hg:RdS W A2 (N.map zI):=by
  have h4':W.ownsRow 0 9 1 (.slice A2 n2 C2) N.length (N.map encStr):=h4
  rw [JU,← hn2] at h4'
  exact (qq h4' (by rw [List.length_map]; exact hn2)).1
 exact rtext12_calls A1 A2 C1 C2 _ n2 (R.map J8) (N.map zI) W (Jq hu).1 (by rw [List.length_map]; exact hn2) (Jq hu).2 hok hg hmay
theorem VA.same {w1:World} {D2 P2 M2 G2:Nat} {A2:zM} {L2:zT} {S2:zv} {l:List Us} {G:List ByteArray} {k2:Nat} (h:VA w0 D T N v vg k W) (ho:zo w1 W D2 P2 M2 G2 A2 L2 S2) (hst:Xm A2 L2 S2 l G k2) (hl:uX l=T) (hG:ue G=N):Calls Tryz.prog 15 #[.pointer (some ⟨D2,0,none⟩),.agg #[v,vg]] W (y7 true W):=by
 obtain ⟨P,M,Gr,A,L,S,R,h1,h2,h3,h4,h5,h6,h7⟩:=h
 refine lsame11_calls R v vg ho hst.1.1 h3 ?_ ?_
 ·
  rw [hst.1.2.2,hG]; exact h4
 ·
  rw [hst.1.2.1,hl]; exact h5
end
def YFb12 (D2 b0:Nat) (sv gv:Value) (A5:Option Addr) (m c5:Nat) (x1:List UInt8):Nat→Value→World→Prop
 | 0,v,_=>v=.slice A5 m c5
 | 1,v,_=>v=.string ⟨x1.toArray⟩
 | 2,v,_=>v=.agg #[sv,gv]
 | 3,v,_=>v=.string ⟨x1.toArray⟩
 | 4,v,_=>v=.bool true
 | 5,v,_=>v=.bool true
 | 6,v,_=>v=.slice A5 m c5
 | 7,v,_=>v=.int .i64 m
 | 8,v,_=>v=.int .i64 1733
 | 9,v,_=>v=.bool true
 | 10,v,_=>v=.bool true
 | 11,v,_=>v=.bool true
 | 12,v,_=>v=.slice A5 m c5
 | 13,v,_=>v=.int .i64 2
 | 14,v,_=>v=.bool true
 | 15,v,_=>v=.bool true
 | 16,v,_=>v=.bool true
 | 17,v,_=>v=.int .i64 0
 | 18,v,_=>v=.bool true
 | 19,v,_=>v=.bool true
 | 20,v,_=>v=.bool true
 | 21,v,_=>v=.pointer (some ⟨D2,0,none⟩)
 | 22,v,_=>v=.bool true
 | 23,v,_=>v=.bool true
 | 24,v,_=>v=.bool true
 | 25,v,_=>v=.pointer (some ⟨D2,0,none⟩)
 | 26,v,_=>v=.agg #[sv,gv]
 | 27,v,_=>v=.bool true
 | 28,v,_=>v=.bool true
 | 29,v,_=>v=.bool true
 | 30,v,_=>v=.slice none 0 0
 | 31,v,_=>v=.int .i64 0
 | 32,v,_=>v=.bool true
 | 33,v,_=>v=.bool true
 | _,v,_=>v=.bool true
theorem YFb12_keep {D2 b0:Nat} {sv gv:Value} {A5:Option Addr} {m c5:Nat} {x1:List UInt8} {W W':World} (hb:Below W.heap.size W W') (j:Nat) (z:Value) (h:YFb12 D2 b0 sv gv A5 m c5 x1 j z W):YFb12 D2 b0 sv gv A5 m c5 x1 j z W':=by
 match j,h with
 | 0,h=>exact h
 | 1,h=>exact h
 | 2,h=>exact h
 | 3,h=>exact h
 | 4,h=>exact h
 | 5,h=>exact h
 | 6,h=>exact h
 | 7,h=>exact h
 | 8,h=>exact h
 | 9,h=>exact h
 | 10,h=>exact h
 | 11,h=>exact h
 | 12,h=>exact h
 | 13,h=>exact h
 | 14,h=>exact h
 | 15,h=>exact h
 | 16,h=>exact h
 | 17,h=>exact h
 | 18,h=>exact h
 | 19,h=>exact h
 | 20,h=>exact h
 | 21,h=>exact h
 | 22,h=>exact h
 | 23,h=>exact h
 | 24,h=>exact h
 | 25,h=>exact h
 | 26,h=>exact h
 | 27,h=>exact h
 | 28,h=>exact h
 | 29,h=>exact h
 | 30,h=>exact h
 | 31,h=>exact h
 | 32,h=>exact h
 | 33,h=>exact h
 | _+34,h=>exact h

set_option maxRecDepth 100000 in
theorem fbytes12_walk (A:Option Addr) (c n:Nat) (l:List J7) (w:World) (hm:vX w) (hl:n=l.length) (hn:n≤9223372036854775807) (hr:RdAN w A l) :
  Calls Tryz.prog 7 #[.slice A n c] w (y7 true w):=by
 have hnot:∀ (x:Bool) (w:World),(Op.unary .not (.bool x)).run Tryz.prog w=.ok (.bool (!x)) w:=fun _ _=>rfl
 have HV:Hid (∀ W,Below w.heap.size w W→Calls Tryz.prog 32 #[] W (y7 true W)):=fun W hb=>lives12_calls W (hm.later hb)
 have HPL:Hid (n≤60→(∀ t∈l,t.nm.size≤50∧t.hs.size≤50)→∀ W,Below w.heap.size w W→Calls Tryz.prog 33 #[.slice A n c] W (Played12 W n)):=fun h1 h2 W hb=>played12_calls A c n l W (hm.later hb) hl h1 h2 (hr.later hb)
 have HF:Hid (∀ W,Below w.heap.size w W→Calls Tryz.prog 12 #[.slice A n c] W (y7 (Zx l) W)):=fun W hb=>few11L_calls A c n l W hl hn (hr.later hb)
 have HFW:Hid (Zx l=true→n≤60∧∀ t∈l,t.nm.size≤50∧t.hs.size≤50):=fun h=>⟨by rw [hl]; exact few11L_len h,few11L_size h⟩
 have HR:=za hr
 have HL:=za hl
 have H5:=za hm
 clear hr hl hm
 generalize Zx l=fw at *
 have hzd:∀ w:World,(zeroValue zn).run Tryz.prog w=.ok (.agg #[.slice none 0 0,.slice none 0 0]) w:=fun w=>by kernel_rfl
 go_enter Tryz.func7,Tryz.ntmps7
 go_wp2_with fail
 with_reducible refine (HV.out w (Below.refl _ _)).mono ?_
 rintro e w1 ⟨rfl,hb⟩
 have HB1:=za hb
 clear hb
 go_wp2_with fail
 with_reducible refine (HF.out w1 HB1.out).mono ?_
 rintro e w2 ⟨rfl,hb⟩
 have HB2:=za (z8 HB1.out hb)
 clear hb HF HB1
 have BAD:Hid (∀ W,Below w.heap.size w W→Calls Tryz.prog 32 #[] W fun e w'=>e=.returned (.bool true)∧Hid (Below w.heap.size w w')):=fun W hb=>(HV.out W hb).mono fun e w' ⟨he,hb'⟩=>⟨he,z8 hb hb'⟩
 clear HV
 cases fw with
 | false =>
  go_wp2_with fail
  with_reducible refine (BAD.out w2 HB2.out).mono ?_
  rintro e w3 ⟨rfl,HB3⟩
  go_wp2
  go_ret
  exact ⟨rfl,HB3.out⟩
 | true =>
 obtain ⟨hn60,hsz⟩:=HFW.out rfl
 have HSZ:=za hsz
 clear HFW hsz
 clear BAD
 have HP2:=za (HPL.out hn60 HSZ.out w2 HB2.out)
 clear HPL HSZ
 go_wp2_with fail
 with_reducible refine HP2.out.mono ?_
 rintro e w3 ⟨D,T,N,A1,n1,C1,A2,n2,C2,rfl,hbo⟩
 have hbx:=z7 (Below.refl w3.heap.size w3) (.cells #[.slice A1 n1 C1,.slice A2 n2 C2] zn)
 have HBX:=za hbx
 have HB4:=za (z8 (z8 HB2.out hbo.below) hbx)
 have HBO:=za (hbo.later hbx)
 have K0:(w3.alloc (.cells #[.slice A1 n1 C1,.slice A2 n2 C2] zn)).cell? ⟨w3.heap.size,0,none⟩=some (.slice A1 n1 C1):=by rw [World.cell?_alloc_at _ _ _ _ rfl]; rfl
 have K1:(w3.alloc (.cells #[.slice A1 n1 C1,.slice A2 n2 C2] zn)).cell? ⟨w3.heap.size,1,none⟩=some (.slice A2 n2 C2):=by rw [World.cell?_alloc_at _ _ _ _ rfl]; rfl
 have LT:w3.heap.size<(w3.alloc (.cells #[.slice A1 n1 C1,.slice A2 n2 C2] zn)).heap.size:=by simp
 have hz:=hbo.of
 have hmay:=may12 hz
 have hrd:Fr (FO T N)=(0,T.map vN,N.map zI):=by
  have:=read12_put hz
  rwa [us_nrm12] at this
 have hlen:(FO T N).length≤1733:=JQ hmay
 have hsc:UP (FO T N)=2:=rfl
 have H54:=za (H5.out.later HB4.out)
 clear hbo hbx HB2 hz hmay H5
 go_wp2_with fail
 generalize hw4:w3.alloc (.cells #[.slice A1 n1 C1,.slice A2 n2 C2] zn)=w4 at *
 clear hw4
 have HBY:=za (HBO.out.bytes H54.out)
 have HSC:=za hsc
 have HRD0:=za hrd
 have HTX0:Hid (∀ W,Below w4.heap.size w4 W→Calls Tryz.prog 36 #[.agg #[.slice A1 n1 C1,.slice A2 n2 C2]] W fun e w'=>e=.returned (.string ⟨(FO T N).toArray⟩)∧Below W.heap.size W w'):=fun W hb=>(HBO.out.later hb).text
 clear hsc hrd
 generalize FO T N=x1 at *
 with_reducible refine HBY.out.mono ?_
 rintro e w5 ⟨v5,rfl,ho5,_,hb⟩
 have HB5:=za (z8 HB4.out hb)
 have HB45:=za hb
 have HR5:=za (Rd.of_own ho5)
 obtain ⟨A5,c5,rfl⟩:=vG ho5
 have HRD:=za (fread12_calls _ x1 w5 HR5.out (by omega) (H54.out.later hb))
 rw [HRD0.out] at HRD
 clear hb ho5 HBY HRD0
 generalize hlx:x1.length=m at *
 go_wp2_with fail
 with_reducible refine HRD.out.mono ?_
 rintro e w6 h6
 clear HRD
 rcases h6 with ⟨hne,_⟩ | ⟨_,D2,P2,M2,G2,Aa2,L2,S2,k2,rfl,hown,hst,hk2⟩
 ·
  exact absurd rfl hne
 have HB6:=za (z8 HB5.out hown.below)
 have HB46:=za (z8 HB45.out hown.below)
 have HR6:=za (HR5.out.still (zm.of_below hown.below _))
 have HBO6:=za (HBO.out.later HB46.out)
 have HTX:Hid (∀ W,Below w6.heap.size w6 W→Calls Tryz.prog 36 #[.agg #[.slice A1 n1 C1,.slice A2 n2 C2]] W fun e w'=>e=.returned (.string ⟨x1.toArray⟩)∧Below W.heap.size W w'):=fun W hb=>HTX0.out W (z8 HB46.out hb)
 have HSM:Hid (∀ W,Below w6.heap.size w6 W→Calls Tryz.prog 15 #[.pointer (some ⟨D2,0,none⟩),.agg #[.slice A1 n1 C1,.slice A2 n2 C2]] W (y7 true W)):=fun W hb=>(HBO6.out.later hb).same (hown.later hb) hst (plU_usOf12 T) (Fd N)
 have HSC6:Hid (∀ W,Below w6.heap.size w6 W→Calls Tryz.prog 38 #[.slice A5 m c5] W fun e w'=>e=.returned (.int .i64 2)∧W=w'):=fun W hb=>by
  have:=sch12_calls _ x1 W (HR6.out.still (zm.of_below hb _))
  rwa [HSC.out] at this
 have k0:=(HB46.out.cell (p:=⟨w3.heap.size,0,none⟩) LT).trans K0
 have k1:=(HB46.out.cell (p:=⟨w3.heap.size,1,none⟩) LT).trans K1
 have lt6:w3.heap.size<w6.heap.size:=Nat.lt_of_lt_of_le LT HB46.out.size
 clear hown hst K0 K1 LT HTX0 HBO HBO6 HSC H54 HB45 HB4 HB5 HBX
 have K0:=k0
 have K1:=k1
 have LT:=lt6
 clear k0 k1 lt6
 have hmz:(m:Int)≤1733:=by omega
 go_wp2_with fail
 refine yS (by kernel_rfl) (fun W=>Below w6.heap.size w6 W) (YFb12 D2 w3.heap.size (.slice A1 n1 C1) (.slice A2 n2 C2) A5 m c5 x1) ?F ?hF (by kernel_rfl) (by kernel_rfl) (zK (Below.refl _ _)) ?step ?fin
 case hF =>
  intro x
  simp only [List.map_cons,List.map_nil,vc,Act.put,List.setIfInBounds_toArray,List.set_cons_zero,List.set_cons_succ,Nat.zero_add,Nat.reduceAdd]
  exact rfl
 case step =>
  refine ⟨?_,?_,?_,?_,?_,?_,?_,?_,?_,?_,?_,?_,?_,?_,?_,?_,?_,?_,?_,?_,?_,?_,?_,?_,?_,?_,?_,?_,?_,?_,?_,?_,?_,?_,?_,trivial⟩
  all_goals intro x W hW hdep K hK
  ·
   clear hdep
   go_simp
   exact hK _ _ rfl hW (fun _ _ h=>h)
  ·
   have h0:x 0=_:=hdep 0 rfl
   have hs:=(HR6.out.still (zm.of_below hW _)).string (P:=Tryz.prog) (src:=66) (dst:=9) Tryz.underlying66 Tryz.underlying5 Tryz.underlying9
   clear hdep
   simp only [h0] at hK
   go_simp
   exact hK _ _ rfl hW (fun _ _ h=>h)
  ·
   have k0:=(hW.cell (p:=⟨w3.heap.size,0,none⟩) LT).trans K0
   have k1:=(hW.cell (p:=⟨w3.heap.size,1,none⟩) LT).trans K1
   clear hdep
   go_simp
   exact hK _ _ rfl hW (fun _ _ h=>h)
  ·
   have h2:x 2=_:=hdep 2 rfl
   clear hdep
   simp only [h2] at hK
   go_simp
   refine (HTX.out W hW).mono ?_
   rintro e W' ⟨rfl,hb⟩
   exact hK _ _ rfl (z8 hW hb) (fun j z h=>YFb12_keep hb j z h)
  ·
   have h1:x 1=_:=hdep 1 rfl
   have h3:x 3=_:=hdep 3 rfl
   clear hdep
   simp only [h1,h3] at hK
   go_simp
   exact hK _ _ rfl hW (fun _ _ h=>h)
  ·
   have h4:x 4=_:=hdep 4 rfl
   clear hdep
   simp only [h4] at hK
   go_simp
   exact hK _ _ rfl hW (fun _ _ h=>h)
  ·
   have h5:x 5=_:=hdep 5 rfl
   clear hdep
   simp only [h5] at hK
   go_simp
   exact hK _ _ rfl hW (fun _ _ h=>h)
  ·
   have h5:x 5=_:=hdep 5 rfl
   have h6:x 6=_:=hdep 6 rfl
   clear hdep
   simp only [h5,h6] at hK
   go_simp
   exact hK _ _ rfl hW (fun _ _ h=>h)
  ·
   have h5:x 5=_:=hdep 5 rfl
   clear hdep
   simp only [h5] at hK
   go_simp
   refine (fmost_calls W).mono ?_
   rintro e W' ⟨rfl,rfl⟩
   exact hK _ _ rfl hW (fun _ _ h=>h)
  ·
   have h5:x 5=_:=hdep 5 rfl
   have h7:x 7=_:=hdep 7 rfl
   have h8:x 8=_:=hdep 8 rfl
   clear hdep
   simp only [h5,h7,h8] at hK
   go_simp
   exact hK _ _ rfl hW (fun _ _ h=>h)
  ·
   have h5:x 5=_:=hdep 5 rfl
   have h9:x 9=_:=hdep 9 rfl
   clear hdep
   simp only [h5,h9] at hK
   go_simp
   exact hK _ _ rfl hW (fun _ _ h=>h)
  ·
   have h10:x 10=_:=hdep 10 rfl
   clear hdep
   simp only [h10] at hK
   go_simp
   exact hK _ _ rfl hW (fun _ _ h=>h)
  ·
   have h11:x 11=_:=hdep 11 rfl
   clear hdep
   simp only [h11] at hK
   go_simp
   exact hK _ _ rfl hW (fun _ _ h=>h)
  ·
   have h11:x 11=_:=hdep 11 rfl
   have h12:x 12=_:=hdep 12 rfl
   clear hdep
   simp only [h11,h12] at hK
   go_simp
   refine (HSC6.out W hW).mono ?_
   rintro e W' ⟨rfl,rfl⟩
   exact hK _ _ rfl hW (fun _ _ h=>h)
  ·
   have h11:x 11=_:=hdep 11 rfl
   have h13:x 13=_:=hdep 13 rfl
   clear hdep
   simp only [h11,h13] at hK
   go_simp
   exact hK _ _ rfl hW (fun _ _ h=>h)
  ·
   have h11:x 11=_:=hdep 11 rfl
   have h14:x 14=_:=hdep 14 rfl
   clear hdep
   simp only [h11,h14] at hK
   go_simp
   exact hK _ _ rfl hW (fun _ _ h=>h)
  ·
   have h15:x 15=_:=hdep 15 rfl
   clear hdep
   simp only [h15] at hK
   go_simp
   exact hK _ _ rfl hW (fun _ _ h=>h)
  ·
   have h16:x 16=_:=hdep 16 rfl
   clear hdep
   simp only [h16] at hK
   go_simp
   exact hK _ _ rfl hW (fun _ _ h=>h)
  ·
   have h16:x 16=_:=hdep 16 rfl
   have h17:x 17=_:=hdep 17 rfl
   clear hdep
   simp only [h16,h17] at hK
   go_simp
   exact hK _ _ rfl hW (fun _ _ h=>h)
  ·
   have h16:x 16=_:=hdep 16 rfl
   have h18:x 18=_:=hdep 18 rfl
   clear hdep
   simp only [h16,h18] at hK
   go_simp
   exact hK _ _ rfl hW (fun _ _ h=>h)
  ·
   have h19:x 19=_:=hdep 19 rfl
   clear hdep
   simp only [h19] at hK
   go_simp
   exact hK _ _ rfl hW (fun _ _ h=>h)
  ·
   have h20:x 20=_:=hdep 20 rfl
   clear hdep
   simp only [h20] at hK
   go_simp
   exact hK _ _ rfl hW (fun _ _ h=>h)
  ·
   have h20:x 20=_:=hdep 20 rfl
   have h21:x 21=_:=hdep 21 rfl
   clear hdep
   simp only [h20,h21] at hK
   go_simp
   exact hK _ _ rfl hW (fun _ _ h=>h)
  ·
   have h20:x 20=_:=hdep 20 rfl
   have h22:x 22=_:=hdep 22 rfl
   clear hdep
   simp only [h20,h22] at hK
   go_simp
   exact hK _ _ rfl hW (fun _ _ h=>h)
  ·
   have h23:x 23=_:=hdep 23 rfl
   clear hdep
   simp only [h23] at hK
   go_simp
   exact hK _ _ rfl hW (fun _ _ h=>h)
  ·
   have h24:x 24=_:=hdep 24 rfl
   clear hdep
   simp only [h24] at hK
   go_simp
   exact hK _ _ rfl hW (fun _ _ h=>h)
  ·
   have h24:x 24=_:=hdep 24 rfl
   have k0:=(hW.cell (p:=⟨w3.heap.size,0,none⟩) LT).trans K0
   have k1:=(hW.cell (p:=⟨w3.heap.size,1,none⟩) LT).trans K1
   clear hdep
   simp only [h24] at hK
   go_simp
   exact hK _ _ rfl hW (fun _ _ h=>h)
  ·
   have h24:x 24=_:=hdep 24 rfl
   have h25:x 25=_:=hdep 25 rfl
   have h26:x 26=_:=hdep 26 rfl
   clear hdep
   simp only [h24,h25,h26] at hK
   go_simp
   refine (HSM.out W hW).mono ?_
   rintro e W' ⟨rfl,hb⟩
   exact hK _ _ rfl (z8 hW hb) (fun j z h=>YFb12_keep hb j z h)
  ·
   have h24:x 24=_:=hdep 24 rfl
   have h27:x 27=_:=hdep 27 rfl
   clear hdep
   simp only [h24,h27] at hK
   go_simp
   exact hK _ _ rfl hW (fun _ _ h=>h)
  ·
   have h28:x 28=_:=hdep 28 rfl
   clear hdep
   simp only [h28] at hK
   go_simp
   exact hK _ _ rfl hW (fun _ _ h=>h)
  ·
   have h29:x 29=_:=hdep 29 rfl
   clear hdep
   simp only [h29] at hK
   go_simp
   refine (fbytes0_calls W).mono ?_
   rintro e W' ⟨rfl,rfl⟩
   exact hK _ _ rfl hW (fun _ _ h=>h)
  ·
   have h29:x 29=_:=hdep 29 rfl
   have h30:x 30=_:=hdep 30 rfl
   clear hdep
   simp only [h29,h30] at hK
   go_simp
   exact hK _ _ rfl hW (fun _ _ h=>h)
  ·
   have h29:x 29=_:=hdep 29 rfl
   have h31:x 31=_:=hdep 31 rfl
   clear hdep
   simp only [h29,h31] at hK
   go_simp
   exact hK _ _ rfl hW (fun _ _ h=>h)
  ·
   have h29:x 29=_:=hdep 29 rfl
   have h32:x 32=_:=hdep 32 rfl
   clear hdep
   simp only [h29,h32] at hK
   go_simp
   exact hK _ _ rfl hW (fun _ _ h=>h)
  ·
   have h33:x 33=_:=hdep 33 rfl
   clear hdep
   simp only [h33] at hK
   go_simp
   exact hK _ _ rfl hW (fun _ _ h=>h)
 case fin =>
  intro x W hW hY
  have hl:x 34=.bool true:=hY 34 (by decide)
  have HF:=za (z8 HB6.out hW)
  clear hY hW
  rw [hl]
  go_wp2
  go_ret
  exact ⟨rfl,HF.out⟩
end Go.Proofs.YtmcomnocpibiiaaGreatDoor
namespace Go.Proofs.YtmcomnocpibiiaaGreatDoor.folioBytes
open Go.ChangeShapes Go.WideShapes Go.ChangeAt Go.RowKit
set_option linter.unusedVariables false

theorem own:ownKnob Tryz.prog.godebug=none:=by kernel_rfl
theorem laidOut:laidOutB Tryz.prog=true:=by kernel_rfl

theorem walk (w:World) (hm:vX w) (a0:Option Addr) (len0 cap0:Nat) (l0:List J7) (s0:IsActsN w a0 len0 l0) :
  Calls Tryz.prog 7 #[.slice a0 len0 cap0] w fun e w'=>e=.returned (.bool true)∧Below w.heap.size w w':=by
 obtain ⟨h1,h2,h3,h4⟩:=s0
 exact fbytes12_walk a0 cap0 len0 l0 w hm h1 (by omega) h3

set_option maxRecDepth 100000 in
theorem lifted (os:Os) (started:os.Started) (H:Type) (enc:TypeId×Value→H) :
  ReturnsInHanded {} Tryz.checked os 7 .any (fun w args=>(Rows.folioBytesSpec.pre enc Tryz.prog Tryz.f7 Rows.folioBytesRow.domain false w args∧laidMetH Tryz.prog Rows.folioBytesRow.laid w)∧sizedMet enc Tryz.prog Tryz.f7 (OpenSpec.ofChange Rows.folioBytesSpec) false w args)
   (Rows.folioBytesSpec.post enc Tryz.prog Tryz.f7 false true false false):=by
 refine returns_laid (C:=Tryz.checked) (X:=fun w _=>laidMetH Tryz.prog Rows.folioBytesRow.laid w) own started (by kernel_rfl) Tryz.func7
  (ChangeSpec.witness_shaped (enc:=enc) (C:=Tryz.checked) (os:=os) (X:=fun w _=>laidMetH Tryz.prog Rows.folioBytesRow.laid w) false (World.laidAll Tryz.prog os Rows.folioBytesRow.laid) #[.slice none 0 0] 8 (World.laidAll_os _ _ _)
   (World.shaped_of_ZipB (by kernel_rfl) (by kernel_rfl)) (by kernel_rfl) (by kernel_rfl) (by kernel_rfl)
   (by rw [MakeChecks.laidMetH_plain _ _ _ (by kernel_rfl)]; exact laidMet_laidAll _ (by kernel_rfl) (by kernel_rfl))) ?_
 intro W base args ds gs before hval0 hW hsh
 have hval:∀ (j:Nat) t v,Tryz.f7.params[j]? = some t→args[j]? = some v→Value.okWide Tryz.prog W .any base t v:=hval0
 have hW':=hW
 obtain ⟨p,q,hA0,hV,rfl,hfz,hnd⟩:=hW
 have hA:DataW.TrodAll enc Tryz.prog W 0 (fun _=>true) true Tryz.f7.params.toList args.toList ds p:=hA0
 rw [Tryz.params7] at hA hval
 obtain ⟨v0,vs0,d0,ds0,p0,q0,hargs,rfl,rfl,h0,r0⟩:=trodAll_cons hA
 obtain ⟨rfl,rfl,rfl⟩:=trodAll_nil r0
 obtain rfl:args=#[v0]:=by cases args; simp_all
 obtain ⟨rfl,rfl⟩:=trodVars_none hV
 obtain ⟨a0,len0,cap0,rfl⟩:=okWide_slice Tryz.underlying22 (hval 0 22 v0 rfl rfl)
 have lt0:∀ x∈p0,x.block<W.heap.size:=by obtain ⟨m,hm⟩:=h0; exact DataW.trod_lt m _ _ _ hm
 obtain ⟨l0,s0⟩:=actns_of h0
 clear hA0 hval0
 refine (walk W (len5_of hsh) a0 len0 cap0 l0 s0).mono fun e W' ⟨he,bel⟩=>?_
 subst he
 exact ⟨_,rfl,_,_,_,[],_,[],hW',trodAll_mk1 (shut_bool Tryz.underlying4 _),(trodAll_cons_mk (Below.trod laidOut (by kernel_rfl) (of_decide_eq_true (by kernel_rfl)) h0 bel lt0) trodAll_mk0),rfl,bel.frame _,fun h=>by cases h⟩

theorem row_holds:Rows.FolioBytesSaid :=
 OpenClaim.holds_of_wide 7 Tryz.f7 rfl rfl rfl rfl rfl rfl rfl ⟨rfl,rfl,rfl,rfl,rfl⟩ rfl rfl rfl rfl rfl (by kernel_rfl) Tryz.func7 (by kernel_rfl)
  (of_decide_eq_true (by kernel_rfl)) (by unfold Func.isWrapper; first | (rw [if_pos (by decide +kernel)]; kernel_rfl) | (rw [if_neg (by decide +kernel)]; exact ⟨rfl,rfl⟩))
  (fun os started H enc _=>lifted os started H enc)

theorem proved:Rows.FolioBytesCardSaid :=
 Claim7.holds_tied_plain_at .later [] Rows.folioBytesCard.laidKinds true Rows.folioBytesCard.stood.harness Rows.folioBytesCard.stood.looks row_holds (fun _ h=>by cases h) (by kernel_rfl) (fun _ h=>by cases h) folioBytes_row_tie rfl ⟨rfl,rfl⟩ (by kernel_rfl) rfl
  (fun f fn hf hfn=>by
   obtain rfl:f=7:=Option.some.inj ((show Tryz.prog.funcNamed Rows.folioBytesRow.func=some 7 by kernel_rfl).symm.trans hf) |>.symm
   obtain rfl:fn=Tryz.f7:=(Option.some.inj (Tryz.func7.symm.trans hfn)).symm
   exact ⟨by kernel_rfl,fun j t ht=>by
    rw [Tryz.params7] at ht
    have hm:t∈[22]:=by simpa using Array.mem_of_getElem? ht
    have hall:([22].all fun u=>!Tryz.prog.wantsStandIn u)=true:=by kernel_rfl
    exact (show Tryz.prog.wantsStandIn t=false by simpa using List.all_eq_true.1 hall t hm)⟩)
  (by kernel_rfl)
end Go.Proofs.YtmcomnocpibiiaaGreatDoor.folioBytes
