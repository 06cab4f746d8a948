/-
  What this law alone needs, the law walked, and its statement.
  Conditions: each theorem's own.
-/
import Derived.Test.YthmomkjingcbiaaGreatDoorCards
import Derived.Test.YthmomkjingcbiaaGreatDoorTie
import Derived.Test.YthmomkjingcbiaaGreatDoorMigDBL
set_option maxHeartbeats 16000000
namespace Go.Proofs.YthmomkjingcbiaaGreatDoor
open Go.RowKit Go.Maps Go.Sort Go.Shelf
set_option linter.unusedVariables false

def bareL13 (l:List Us):Bool:=l.all fun u=>decide (u.ml.data.toList=[]) && !u.dis
theorem bareL_plain13 (l:List Us):bareL13 l=qO (vC l):=by
 unfold bareL13 qO vC
 rw [List.all_map]
 rfl
theorem bareL_next13 {l:List Us} {j:Nat} (hj:j<l.length):bareL13 (l.take (j+1))=(bareL13 (l.take j) && (decide (l[j].ml.data.toList=[]) && !l[j].dis)):=by
 unfold bareL13
 rw [List.take_succ_eq_append_getElem hj,List.all_append,List.all_cons,List.all_nil,Bool.and_true]
theorem down_same13 {A:zJ} {L:zB} {S:zw} {k:Nat} {l:List Us} (hg:zt A L S k) (h:vC l=zc A L S) (h0:zb S=[]) (hp:qO (zc A L S)=true) :
  ∀ i (i1:i<((down13 (zc A L S)).map zS).length) (i2:i<l.length),Y6 ((down13 (zc A L S)).map zS)[i] l[i]=true:=by
 have he:=ofE_tell13 hg h h0
 rw [hp,if_pos rfl] at he
 have hc:=(ofE_zero he).1
 intro i i1 i2
 have e:(down13 (zc A L S))=fC l:=by rw [← h,FA]
 have e2:((down13 (zc A L S)).map zS)[i]=zS (l[i].nm.data.toList,l[i].hs.data.toList):=by
  simp only [e]
  unfold fC
  rw [List.getElem_map,List.getElem_map]
 rw [e2]
 exact bare7_same (hc _ (List.getElem_mem i2))
def YDn13 (B D:Nat) (bytes:List UInt8):Nat→Value→World→Prop
 | 0,v,_=>v=.int .i64 0
 | 1,v,_=>v=.bool false
 | 2,v,_=>v=.bool false
 | 3,v,_=>v=.pointer (some ⟨B,0,none⟩)
 | 4,v,_=>v=.bool false
 | 5,v,_=>v=.bool false
 | 6,v,_=>v=.bool false
 | 7,v,_=>v=.pointer (some ⟨B,0,none⟩)
 | 8,v,W=>∃ D2,v=.pointer (some ⟨D2,0,none⟩)∧∀ W2,Below W.heap.size W W2→Calls Tryz.prog 16 #[.pointer (some ⟨D2,0,none⟩)] W2 (Told6 W2 bytes)
 | 9,v,W=>Rd W v bytes
 | 10,v,_=>v=.string ⟨bytes.toArray⟩
 | 11,v,_=>v=.pointer (some ⟨D,0,none⟩)
 | 12,v,W=>Rd W v bytes
 | 13,v,_=>v=.string ⟨bytes.toArray⟩
 | 14,v,_=>v=.bool false
 | _,v,_=>v=.bool false
theorem YDn13_keep {B:Nat} {D:Nat} {bytes:List UInt8} {W W':World} (hb:Below W.heap.size W W') (j:Nat) (z:Value) (h:YDn13 B D bytes j z W):YDn13 B D bytes j z W':=by
 match j,h with
 | 0,h=>exact h
 | 1,h=>exact h
 | 2,h=>exact h
 | 3,h=>exact h
 | 4,h=>exact h
 | 5,h=>exact h
 | 6,h=>exact h
 | 7,h=>exact h
 | 8,h=>exact (by obtain ⟨D2,e,hy⟩:=h; exact ⟨D2,e,fun W2 h2=>hy W2 (z8 hb h2)⟩)
 | 9,h=>exact Rd.still h (zm.of_below hb _)
 | 10,h=>exact h
 | 11,h=>exact h
 | 12,h=>exact Rd.still h (zm.of_below hb _)
 | 13,h=>exact h
 | 14,h=>exact h
 | _+15,h=>exact h

def YDa13 (B Wb nR:Nat) (A1:Option Addr) (C1:Nat) (T:yA):Nat→Value→World→Prop
 | 0,v,_=>v=.int .i64 12
 | 1,v,_=>v=.bool true
 | 2,v,_=>v=.bool true
 | 3,v,_=>v=.pointer none
 | 4,v,_=>v=.bool true
 | 5,v,_=>v=.bool true
 | 6,v,_=>v=.bool true
 | 7,v,_=>v=.pointer (some ⟨B,0,none⟩)
 | 8,v,W=>∃ Aa ca,v=.slice Aa nR ca∧YA W Aa ((down13 T).map zS)
 | 9,v,_=>v=.pointer (some ⟨Wb,0,none⟩)
 | 10,v,_=>v=.slice A1 nR C1
 | 11,v,_=>v=.bool true
 | 12,v,_=>v=.bool true
 | _,v,_=>v=.bool true
theorem YDa13_keep {B:Nat} {Wb:Nat} {nR:Nat} {A1:Option Addr} {C1:Nat} {T:yA} {W W':World} (hb:Below W.heap.size W W') (j:Nat) (z:Value) (h:YDa13 B Wb nR A1 C1 T j z W):YDa13 B Wb nR A1 C1 T j z W':=by
 match j,h with
 | 0,h=>exact h
 | 1,h=>exact h
 | 2,h=>exact h
 | 3,h=>exact h
 | 4,h=>exact h
 | 5,h=>exact h
 | 6,h=>exact h
 | 7,h=>exact h
 | 8,h=>exact (by obtain ⟨Aa,ca,e,hy⟩:=h; exact ⟨Aa,ca,e,hy.later hb⟩)
 | 9,h=>exact h
 | 10,h=>exact h
 | 11,h=>exact h
 | 12,h=>exact h
 | _+13,h=>exact h

set_option maxRecDepth 100000 in
theorem mdown13_walk (A:Option Addr) (c n:Nat) (l:List ActN) (w:World) (hm:vR w) (hl:n=l.length) (hn:n≤9223372036854775807) (hr:RdAN w A l) :
  Calls Tryz.prog 5 #[.slice A n c] w (zY true w):=by
 have hnot:∀ (x:Bool) (w:World),(Op.unary .not (.bool x)).run Tryz.prog w=.ok (.bool (!x)) w:=fun _ _=>rfl
 have HV:Hid (∀ W,Below w.heap.size w W→Calls Tryz.prog 6 #[] W (zY true W)):=fun W hb=>lives13_calls W (hm.later hb)
 have HNW:Hid (∀ W,Calls Tryz.prog 23 #[] W fun e w'=>∃ D P M G,e=.returned (.pointer (some ⟨D,0,none⟩))∧zo W w' D P M G [] [] []):=QI
 have HF:Hid (∀ W,Below w.heap.size w W→Calls Tryz.prog 22 #[.slice A n c] W (zY (ZZ l) W)):=fun W hb=>few11L_calls A c n l W hl hn (hr.later hb)
 have HFW:Hid (ZZ l=true→n≤60∧∀ t∈l,t.nm.size≤50∧t.hs.size≤50):=fun h=>⟨by rw [hl]; exact few11L_len h,few11L_size h⟩
 have HR:=za hr
 have HL:=za hl
 have H5:=za hm
 clear hr hl hm
 generalize ZZ l=fw at *
 have hzd:∀ w:World,(zeroValue zn).run Tryz.prog w=.ok (.agg #[.slice none 0 0,.slice none 0 0]) w:=fun w=>by kernel_rfl
 go_enter Tryz.func5,Tryz.ntmps5
 go_wp2_with fail
 with_reducible refine (HV.out w (Below.refl _ _)).mono ?_
 rintro e w1 ⟨rfl,hb⟩
 have HB1:=za hb
 clear hb
 go_wp2_with fail
 with_reducible refine (HF.out w1 HB1.out).mono ?_
 rintro e w2 ⟨rfl,hb⟩
 have HB2:=za (z8 HB1.out hb)
 clear hb HF HB1
 have BAD:Hid (∀ W,Below w.heap.size w W→Calls Tryz.prog 6 #[] W fun e w'=>e=.returned (.bool true)∧Hid (Below w.heap.size w w')):=fun W hb=>(HV.out W hb).mono fun e w' ⟨he,hb'⟩=>⟨he,z8 hb hb'⟩
 clear HV
 cases fw with
 | false =>
  go_wp2_with fail
  with_reducible refine (BAD.out w2 HB2.out).mono ?_
  rintro e w3 ⟨rfl,HB3⟩
  go_wp2
  go_ret
  exact ⟨rfl,HB3.out⟩
 | true =>
 obtain ⟨hn60,hsz⟩:=HFW.out rfl
 have HSZ:=za hsz
 clear HFW hsz BAD
 go_wp2_with fail
 with_reducible refine (HNW.out w2).mono ?_
 rintro e w3 ⟨D,P,M,G,rfl,ho⟩
 have HO:=za ho
 have HZB:Hid (w2.heap.size≤w3.heap.size):=ho.below.size
 have H52:=za (H5.out.later HB2.out)
 clear HNW H5 ho
 have HL0:Hid (Loop11 w2 D P M G w3.heap.size 0 (w3.alloc (.cells #[.slice none 0 0,.slice none 0 0] zn))):=by
  have hb:=z7 (Below.refl w3.heap.size w3) (.cells #[.slice none 0 0,.slice none 0 0] zn)
  exact ⟨[],[],[],[],none,0,none,0,HO.out.later hb,zt.nil,zr _ _ _,vQ.nil _ _,NmR.nil _,rfl⟩
 clear HO
 go_wp2
 clear hzd
 generalize w3.alloc (.cells #[.slice none 0 0,.slice none 0 0] zn)=w4 at *
 generalize w3.heap.size=Wb at *
 go_loopg [25] n (fun gg s25 wr=>∃ k:Nat,k≤n∧n - k≤gg∧s25=.int .i64 k∧Hid (Loop11 w2 D P M G Wb k wr))
 case atStart=>exact ⟨0,Nat.zero_le _,by omega,rfl,HL0⟩
 case round =>
  clear HL0
  obtain ⟨k,hk,hg,rfl,HW⟩:=hrel
  by_cases hlt:k<n
  ·
   have hltz:(k:Int)<(n:Int):=by omega
   have hkl:k<l.length:=HL.out ▸ hlt
   obtain ⟨A0,L0,S0,R,A1,C1,A2,C2,ho,hgd,hx,hr1,hn1,hp1⟩:=HW.out
   obtain ⟨b,off,rfl,hb,hc⟩:=(HR.out.later (z8 HB2.out ho.below)) (by intro e; rw [e] at hkl; exact absurd hkl (Nat.not_lt_zero _))
   have c0:wr.cell? ⟨b,off+k * 4,none⟩=some (.int .u8 (l[k].kd:Int)):=hc k hkl 0 _ rfl
   have c1:wr.cell? ⟨b,off+k * 4+1,none⟩=some (.string l[k].nm):=hc k hkl 1 _ rfl
   have c2:wr.cell? ⟨b,off+k * 4+2,none⟩=some (.string l[k].hs):=hc k hkl 2 _ rfl
   have c3:wr.cell? ⟨b,off+k * 4+3,none⟩=some (.bool l[k].is_):=hc k hkl 3 _ rfl
   have hbv:=z7 (Below.refl wr.heap.size wr) (.cells #[.int .u8 (l[k].kd:Int),.string l[k].nm,.string l[k].hs,.bool l[k].is_] 61)
   have HDO:=za (do11_calls R _ _ l[k].kd l[k].nm l[k].hs l[k].is_ _ (ho.later hbv) hgd (by omega) H52.out (hr1.later hbv) (hn1.later hbv) hp1 (HSZ.out _ (List.getElem_mem hkl)).1 (HSZ.out _ (List.getElem_mem hkl)).2)
   have HXV:=za (hx.later hbv)
   have HAV:=za (act11_new wr l[k].kd l[k].nm l[k].hs l[k].is_)
   have x0:=HXV.out.c0
   have x1:=HXV.out.c1
   have xl:=hx.lt
   have av0:=HAV.out.c0
   have av1:=HAV.out.c1
   have av2:=HAV.out.c2
   have av3:=HAV.out.c3
   clear hc hb ho hx hr1 hn1 hp1 hgd hbv HW HAV
   generalize l[k].kd=kd at *
   generalize l[k].nm=nm at *
   generalize l[k].hs=hs at *
   generalize l[k].is_=is_ at *
   generalize List.length R=nR at *
   generalize List.length (zb S0)=nN at *
   clear hkl
   go_wp2_with fail
   with_reducible refine HDO.out.mono ?_
   rintro e w5 ⟨A5,L5,S5,R5,v1,v2,rfl,ho5,hg5,hr5,hn5,hp5,hk5,_⟩
   obtain ⟨a5,c5,rfl⟩:=hr5.rw.us.shape
   obtain ⟨a6,c6,rfl⟩:=hn5.shape
   have hx5:=HXV.out.keeps11 hk5
   have r0:=hx5.c0
   have r1:=hx5.c1
   have rf0:=hx5.f0
   have rf1:=hx5.f1
   have HLN:Hid (Loop11 w2 D P M G Wb (k+1) ((w5.setCell ⟨Wb,0,none⟩ (.slice a5 R5.length c5)).setCell ⟨Wb,1,none⟩ (.slice a6 (zb S5).length c6))):=loop11_next HXV.out HZB.out hk5 ho5 hg5 hr5 hn5 hp5

   clear ho5 hg5 hr5 hn5 hp5 hk5 hx5 HXV HDO x0 x1 xl c0 c1 c2 c3 av0 av1 av2 av3
   generalize List.length R5=nR5 at *
   generalize List.length (zb S5)=nN5 at *
   go_wp2
   go_roundg (n - (k+1))
   case measure=>omega
   case rel=>exact ⟨k+1,by omega,by omega,by go_num,HLN⟩
  ·
   have hltz:¬ (k:Int)<(n:Int):=by omega
   obtain rfl:k=n:=by omega
   obtain ⟨A0,L0,S0,R,A1,C1,A2,C2,ho,hgd,hx,hr1,hn1,hp1⟩:=HW.out
   have hus:=rd_us11 hr1.rw.us
   have hpl:vC (R.map us11)=zc A0 L0 S0:=by rw [plU_us12]; exact hp1
   have hso:=short11 hgd
   have hok:∀ u∈R.map us11,u.Ok wr:=fun u hu=>by
    obtain ⟨q,hq,rfl⟩:=List.mem_map.1 hu
    have hm:(q.1,q.2.u)∈zc A0 L0 S0:=by rw [← hp1]; exact List.mem_map.2 ⟨q,hq,rfl⟩
    have a2:=hso.hs _ hm
    have a3:=hso.ml _ hm
    exact us11_ok (hr1.2 q hq) (hso.nm _ hm) (by rw [← zq]; exact a2) (by rw [← zq]; exact a3) (hso.gs _ hm)
   have h12:R.length≤12:=(yJ hgd hp1).1
   have HX:=za hx
   have HO:=za ho
   have HG:=za hgd
   have HPL:=za hpl
   have HOK:=za hok
   have HUS:=za hus.2
   have HUL:=za hus.1
   have HBE:=za (z8 HB2.out ho.below)
   clear hx hr1 hn1 hp1 hpl hok hso ho hgd HR HL HSZ hn60 hk hg hlt hltz HW hus
   generalize R.map us11=us at *
   generalize List.length R=nR at *
   obtain ⟨nN,hnN⟩:∃ m,m=(zb S0).length:=⟨_,rfl⟩
   rw [← hnN] at HX
   have HNN:=za hnN
   obtain ⟨q0,hq0⟩:∃ q0,q0=((nN:Int) == 0):=⟨_,rfl⟩
   have hq:((nN:Int) == 0)=q0:=hq0.symm
   have HQ0:Hid (q0=true↔zb S0=[]):=by
    show _↔_
    rw [hq0,beq_iff_eq,hnN]
    constructor
    ·
     intro h
     exact List.eq_nil_of_length_eq_zero (by omega)
    ·
     intro h
     rw [h]
     rfl
   have x0:=HX.out.c0
   have x1:=HX.out.c1
   clear hnN hq0
   obtain ⟨wE,hwE⟩:∃ wE,wE=wr:=⟨_,rfl⟩
   subst hwE
   go_wp2
   clear x1
   go_loopg [7,44] nR (fun gg s7 s44 wq=>∃ j:Nat,j≤nR∧nR - j≤gg∧s44=.int .i64 j∧(∃ q,s7=.bool q∧Hid (q=(q0 && bareL13 (us.take j))))∧Hid (Below wE.heap.size wE wq))
   case atStart=>exact ⟨0,Nat.zero_le _,by omega,rfl,⟨_,rfl,by show _=_; simp [bareL13]⟩,Below.refl _ _⟩
   case round =>
    obtain ⟨j,hj,hg2,rfl,⟨q,rfl,HQ⟩,HWQ⟩:=hrel
    by_cases hlt:j<nR
    ·
     have hltz:(j:Int)<(nR:Int):=by omega
     have hjl:j<us.length:=HUL.out ▸ hlt
     obtain ⟨b,off,rfl,hb,hc⟩:=(HUS.out.later HWQ.out) (by intro e; rw [e] at hjl; exact absurd hjl (Nat.not_lt_zero _))
     have c0:wr.cell? ⟨b,off+j * 5,none⟩=some (.string us[j].nm):=hc j hjl 0 _ rfl
     have c1:wr.cell? ⟨b,off+j * 5+1,none⟩=some (.string us[j].hs):=hc j hjl 1 _ rfl
     have c2:wr.cell? ⟨b,off+j * 5+2,none⟩=some (.string us[j].ml):=hc j hjl 2 _ rfl
     have c3:wr.cell? ⟨b,off+j * 5+3,none⟩=some (.bool us[j].dis):=hc j hjl 3 _ rfl
     have c4:wr.cell? ⟨b,off+j * 5+4,none⟩=some (.slice us[j].ga us[j].gs.length us[j].gc):=hc j hjl 4 _ rfl
     have HNX:Hid ((q0 && bareL13 (us.take (j+1)))=(q && (decide (us[j].ml.data.toList=[]) && !us[j].dis))):=by
      show _=_
      rw [bareL_next13 hjl,HQ.out,Bool.and_assoc]
     have R2:Hid (Below wE.heap.size wE (wr.alloc (.cells #[.string us[j].nm,.string us[j].hs,.string us[j].ml,.bool us[j].dis,.slice us[j].ga us[j].gs.length us[j].gc] 47))):=z8 HWQ.out (z7 (Below.refl _ _) _)
     clear hc hb HQ HWQ
     generalize us[j].nm=nm at *
     generalize us[j].hs=hs at *
     generalize us[j].ml=ml at *
     generalize us[j].dis=dis at *
     generalize us[j].ga=ga at *
     generalize us[j].gs.length=gl at *
     generalize us[j].gc=gc at *
     cases q with
     | false =>
      go_wp2
      go_roundg (nR - (j+1))
      case measure=>omega
      case rel=>exact ⟨j+1,by omega,by omega,by go_num,⟨_,rfl,by show _=_; rw [HNX.out]; rfl⟩,R2⟩
     | true =>
      by_cases hml:ml=⟨#[]⟩
      ·
       subst hml
       cases dis with
       | false =>
        go_wp2
        go_roundg (nR - (j+1))
        case measure=>omega
        case rel=>exact ⟨j+1,by omega,by omega,by go_num,⟨_,rfl,by show _=_; rw [HNX.out]; rfl⟩,R2⟩
       | true =>
        go_wp2
        go_roundg (nR - (j+1))
        case measure=>omega
        case rel=>exact ⟨j+1,by omega,by omega,by go_num,⟨_,rfl,by show _=_; rw [HNX.out]; rfl⟩,R2⟩
      ·
       have hm1:decide (ml.data.toList=[])=false:=decide_eq_false (fun h=>hml (by
        have:=ul ml
        rw [h] at this
        exact this.symm))
       have hne1:¬ ml.data.toList=[]:=of_decide_eq_false hm1
       have hne:¬ ml.toList=[]:=fun e=>hne1 (by rw [← ByteArray.toList_eq]; exact e)
       have hne2:ml.toList.isEmpty=false:=by simpa using hne
       rw [hm1] at HNX
       clear hm1 hne1
       go_wp2
       go_roundg (nR - (j+1))
       case measure=>omega
       case rel=>exact ⟨j+1,by omega,by omega,by go_num,⟨_,rfl,by show _=_; rw [HNX.out]; rfl⟩,R2⟩
    ·
     have hltz:¬ (j:Int)<(nR:Int):=by omega
     obtain rfl:j=nR:=by omega
     have hqq:=HQ.out
     rw [List.take_of_length_le (by have:=HUL.out; omega),bareL_plain13,HPL.out] at hqq
     have HQQ:=za hqq
     have HO4:=za (HO.out.later HWQ.out)
     have HB4:=za (z8 HBE.out HWQ.out)
     have HM4:=za (H52.out.later HO4.out.below)
     have HDW:=za (mdown13_calls HO4.out HG.out HM4.out)
     clear hqq HQ hq x0
     go_wp2_with fail
     with_reducible refine HDW.out.mono ?_
     rintro e w5 hcase
     clear HDW
     rcases hcase with ⟨hbad,rfl,hb⟩ | ⟨hnil,hpl,B,rfl,hown⟩
     ·
      have hqf:q=false:=by
       rw [HQQ.out]
       rcases hbad with h | h
       ·
        have:q0=false:=by
         cases q0 with
         | false=>rfl
         | true=>exact absurd (HQ0.out.1 rfl) h
        rw [this]; rfl
       ·
        rw [h]; simp
      subst hqf
      have HB5:=za (z8 HB4.out hb)
      clear hbad hb HQQ
      go_wp2
      go_ret
      exact ⟨rfl,HB5.out⟩
     have hqt:q=true:=by
      rw [HQQ.out,hpl,HQ0.out.2 hnil]
      rfl
     subst hqt
     have HNIL:=za hnil
     have HPN:=za hpl
     have hb5:=hown.below
     have HB5:=za (z8 HB4.out hb5)
     have HOW:=za hown
     have HO5:=za (HO4.out.later hb5)
     have HM5:=za (HM4.out.later hb5)
     have HX5:=za ((HX.out.later HWQ.out).later hb5)
     have HUS5:=za ((HUS.out.later HWQ.out).later hb5)
     have HOK5:Hid (∀ u∈us,u.Ok w5):=fun u hu=>((HOK.out u hu).below HWQ.out).below hb5
     obtain ⟨T,hT⟩:∃ T,T=zc A0 L0 S0:=⟨_,rfl⟩
     have HUD:Hid (up13 (down13 T)=T):=by
      show _=_
      rw [hT]
      exact up_down13 HPN.out (Fj HNIL.out)
     obtain ⟨bytes,hby⟩:∃ bytes,bytes=VP T []:=⟨_,rfl⟩
     have HUP:Hid (∀ W,Below w5.heap.size w5 W→Calls Tryz.prog 14 #[.pointer (some ⟨B,0,none⟩)] W fun e w'=>∃ D2,e=.returned (.pointer (some ⟨D2,0,none⟩))∧Below W.heap.size W w'∧∀ W2,Below w'.heap.size w' W2→Calls Tryz.prog 16 #[.pointer (some ⟨D2,0,none⟩)] W2 (Told6 W2 bytes)):=fun W hb=>by
      have hgd:qJ (down13 T):=by rw [hT]; exact HG.out.down13
      refine (up13_calls ((show jG wr w5 B (down13 T) from by rw [hT]; exact HOW.out).later hb) hgd (HM5.out.later hb)).mono fun e w' ⟨D2,P2,M2,G2,A2,L2,S2,k2,he,ho2,hg2,ht2,hn2,_⟩=>⟨D2,he,ho2.below,fun W2 hb2=>?_⟩
      have:=Vd (ho2.later hb2) hg2 (HM5.out.later (z8 hb (z8 ho2.below hb2)))
      rwa [ht2,hn2,HUD.out,← hby] at this
     have HBN:Hid (∀ W,Below w5.heap.size w5 W→Calls Tryz.prog 16 #[.pointer (some ⟨D,0,none⟩)] W (Told6 W bytes)):=fun W hb=>by
      have:=Vd (HO5.out.later hb) HG.out (HM5.out.later hb)
      rwa [HNIL.out,← hT,← hby] at this
     have HAL0:Hid (∀ W,Below w5.heap.size w5 W→Calls Tryz.prog 27 #[.pointer (some ⟨B,0,none⟩)] W fun e w'=>∃ Aa ca,e=.returned (.slice Aa j ca)∧YA w' Aa ((down13 T).map zS)∧Below W.heap.size W w'):=fun W hb=>by
      have hlen:(down13 T).length=j:=by
       rw [hT,HUL.out,← HPL.out]
       unfold down13 vC
       rw [List.length_map,List.length_map]
      refine ((show jG wr w5 B (down13 T) from by rw [hT]; exact HOW.out).later hb).allu.mono fun e w' ⟨v,he,hu,hb2⟩=>?_
      obtain ⟨Aa,ca,e2,hc⟩:=Us7.of_users hu
      rw [hlen] at e2
      subst e2
      exact ⟨Aa,ca,he,(Us7.of_users hu).rd.2,hb2⟩
     have HSU0:Hid (∀ W,Below w5.heap.size w5 W→∀ Aa ca,YA W Aa ((down13 T).map zS)→Calls Tryz.prog 26 #[.slice Aa j ca,.slice A1 j C1] W (zY true W)):=fun W hb Aa ca hr=>by
      have hlen:((down13 T).map zS).length=us.length:=by
       rw [List.length_map,hT,← HPL.out]
       unfold down13 vC
       rw [List.length_map,List.length_map]
      refine sameusersV_calls Aa A1 ca C1 j ((down13 T).map zS) us W (by rw [hlen]; exact HUL.out) HUL.out (by omega) hr (HUS5.out.later hb) (fun u hu=>?_) (fun u hu=>(HOK5.out u hu).below hb) (fun i i1 i2=>?_)
      ·
       obtain ⟨p,hp,rfl⟩:=List.mem_map.1 hu
       have hgd:qJ (down13 T):=by rw [hT]; exact HG.out.down13
       exact bare7_ok (pair_little8 (hgd.chk p hp))
      ·
       have:=down_same13 HG.out HPL.out HNIL.out HPN.out
       rw [← hT] at this
       exact this i i1 i2
     clear hnil hpl hown hb5 HOW HO5 HO4 HO HX HUS HOK HQQ HQ0 HBE HB4 HM4 HWQ HUD hT hby HNIL HPN HNN HPL HG HUS5 HOK5 HUL HZB H52 HB2
     go_wp2_with fail
     refine xN (by kernel_rfl) (fun W=>Below w5.heap.size w5 W) (YDn13 B D bytes) ?F ?hF (by kernel_rfl) (by kernel_rfl) (zZ (Below.refl _ _)) ?step ?fin
     case hF =>
      intro x
      simp only [List.map_cons,List.map_nil,vH,Act.put,List.setIfInBounds_toArray,List.set_cons_zero,List.set_cons_succ,Nat.zero_add,Nat.reduceAdd]
      exact rfl
     case step =>
      refine ⟨?_,?_,?_,?_,?_,?_,?_,?_,?_,?_,?_,?_,?_,?_,?_,?_,trivial⟩
      all_goals intro x W hW hdep K hK
      ·
       clear hdep
       go_simp
       exact hK _ _ rfl hW (fun _ _ h=>h)
      ·
       have h0:x 0=_:=hdep 0 rfl
       clear hdep
       simp only [h0] at hK
       go_simp
       exact hK _ _ rfl hW (fun _ _ h=>h)
      ·
       have h1:x 1=_:=hdep 1 rfl
       clear hdep
       simp only [h1] at hK
       go_simp
       exact hK _ _ rfl hW (fun _ _ h=>h)
      ·
       have h2:x 2=_:=hdep 2 rfl
       clear hdep
       simp only [h2] at hK
       go_simp
       exact hK _ _ rfl hW (fun _ _ h=>h)
      ·
       have h2:x 2=_:=hdep 2 rfl
       have h3:x 3=_:=hdep 3 rfl
       clear hdep
       simp only [h2,h3] at hK
       go_simp
       exact hK _ _ rfl hW (fun _ _ h=>h)
      ·
       have h2:x 2=_:=hdep 2 rfl
       have h4:x 4=_:=hdep 4 rfl
       clear hdep
       simp only [h2,h4] at hK
       go_simp
       exact hK _ _ rfl hW (fun _ _ h=>h)
      ·
       have h5:x 5=_:=hdep 5 rfl
       clear hdep
       simp only [h5] at hK
       go_simp
       exact hK _ _ rfl hW (fun _ _ h=>h)
      ·
       have h6:x 6=_:=hdep 6 rfl
       clear hdep
       simp only [h6] at hK
       go_simp
       exact hK _ _ rfl hW (fun _ _ h=>h)
      ·
       have h6:x 6=_:=hdep 6 rfl
       have h7:x 7=_:=hdep 7 rfl
       clear hdep
       simp only [h6,h7] at hK
       go_simp
       refine (HUP.out W hW).mono ?_
       rintro e W' ⟨D2,rfl,hb,hby⟩
       exact hK _ _ ⟨D2,rfl,hby⟩ (z8 hW hb) (fun j z h=>YDn13_keep hb j z h)
      ·
       have h6:x 6=_:=hdep 6 rfl
       obtain ⟨D2,h8,hby⟩:∃ D2,x 8=.pointer (some ⟨D2,0,none⟩)∧∀ W2,Below W.heap.size W W2→Calls Tryz.prog 16 #[.pointer (some ⟨D2,0,none⟩)] W2 (Told6 W2 bytes):=hdep 8 rfl
       clear hdep
       simp only [h6,h8] at hK
       go_simp
       refine (hby W (Below.refl _ _)).mono ?_
       rintro e W' ⟨v',rfl,ho,_,hb⟩
       exact hK _ _ (Rd.of_own ho) (z8 hW hb) (fun j z h=>YDn13_keep hb j z h)
      ·
       have h6:x 6=_:=hdep 6 rfl
       have r9:Rd W (x 9) bytes:=hdep 9 rfl
       obtain ⟨A9,c9,e9⟩:=r9.shape
       rw [e9] at r9
       have hs:=r9.string (P:=Tryz.prog) (src:=22) (dst:=9) Tryz.underlying22 Tryz.underlying5 Tryz.underlying9
       clear hdep
       simp only [h6,e9] at hK
       go_simp
       exact hK _ _ rfl hW (fun _ _ h=>h)
      ·
       have h6:x 6=_:=hdep 6 rfl
       clear hdep
       simp only [h6] at hK
       go_simp
       exact hK _ _ rfl hW (fun _ _ h=>h)
      ·
       have h6:x 6=_:=hdep 6 rfl
       have h11:x 11=_:=hdep 11 rfl
       clear hdep
       simp only [h6,h11] at hK
       go_simp
       refine (HBN.out W hW).mono ?_
       rintro e W' ⟨v',rfl,ho,_,hb⟩
       exact hK _ _ (Rd.of_own ho) (z8 hW hb) (fun j z h=>YDn13_keep hb j z h)
      ·
       have h6:x 6=_:=hdep 6 rfl
       have r12:Rd W (x 12) bytes:=hdep 12 rfl
       obtain ⟨A12,c12,e12⟩:=r12.shape
       rw [e12] at r12
       have hs:=r12.string (P:=Tryz.prog) (src:=22) (dst:=9) Tryz.underlying22 Tryz.underlying5 Tryz.underlying9
       clear hdep
       simp only [h6,e12] at hK
       go_simp
       exact hK _ _ rfl hW (fun _ _ h=>h)
      ·
       have h6:x 6=_:=hdep 6 rfl
       have h10:x 10=_:=hdep 10 rfl
       have h13:x 13=_:=hdep 13 rfl
       clear hdep
       simp only [h6,h10,h13] at hK
       go_simp
       exact hK _ _ rfl hW (fun _ _ h=>h)
      ·
       have h6:x 6=_:=hdep 6 rfl
       have h14:x 14=_:=hdep 14 rfl
       clear hdep
       simp only [h6,h14] at hK
       go_simp
       exact hK _ _ rfl hW (fun _ _ h=>h)
     case fin =>
      intro x W hW hY
      have h15:x 15=.bool false:=hY 15 (by decide)
      have HB6:=za (z8 HB5.out hW)
      have HAL:Hid (∀ W2,Below W.heap.size W W2→Calls Tryz.prog 27 #[.pointer (some ⟨B,0,none⟩)] W2 fun e w'=>∃ Aa ca,e=.returned (.slice Aa j ca)∧YA w' Aa ((down13 T).map zS)∧Below W2.heap.size W2 w'):=fun W2 hb=>HAL0.out W2 (z8 hW hb)
      have HSU:Hid (∀ W2,Below W.heap.size W W2→∀ Aa ca,YA W2 Aa ((down13 T).map zS)→Calls Tryz.prog 26 #[.slice Aa j ca,.slice A1 j C1] W2 (zY true W2)):=fun W2 hb=>HSU0.out W2 (z8 hW hb)
      have HXW:=za (HX5.out.later hW)
      have HDN:=za (mdown0_13_calls W)
      clear hY hW HAL0 HSU0 HX5 HB5 HUP HBN HM5
      rw [h15]
      go_wp2_with fail
      with_reducible refine HDN.out.mono ?_
      rintro e w6 ⟨rfl,rfl⟩
      obtain ⟨w6,hw6⟩:∃ w6,w6=W:=⟨_,rfl⟩
      subst hw6
      have K0:=HXW.out.c0
      have LT:=HXW.out.lt
      clear HDN
      go_wp2_with fail
      refine xN (by kernel_rfl) (fun W=>Below w6.heap.size w6 W) (YDa13 B Wb j A1 C1 T) ?F2 ?hF2 (by kernel_rfl) (by kernel_rfl) (zZ (Below.refl _ _)) ?step2 ?fin2
      case hF2 =>
       intro x
       simp only [List.map_cons,List.map_nil,vH,Act.put,List.setIfInBounds_toArray,List.set_cons_zero,List.set_cons_succ,Nat.zero_add,Nat.reduceAdd]
       exact rfl
      case step2 =>
       refine ⟨?_,?_,?_,?_,?_,?_,?_,?_,?_,?_,?_,?_,?_,?_,trivial⟩
       all_goals intro x W hW hdep K hK
       ·
        clear hdep
        go_simp
        exact hK _ _ rfl hW (fun _ _ h=>h)
       ·
        have h0:x 0=_:=hdep 0 rfl
        clear hdep
        simp only [h0] at hK
        go_simp
        exact hK _ _ rfl hW (fun _ _ h=>h)
       ·
        have h1:x 1=_:=hdep 1 rfl
        clear hdep
        simp only [h1] at hK
        go_simp
        exact hK _ _ rfl hW (fun _ _ h=>h)
       ·
        have h2:x 2=_:=hdep 2 rfl
        clear hdep
        simp only [h2] at hK
        go_simp
        exact hK _ _ rfl hW (fun _ _ h=>h)
       ·
        have h2:x 2=_:=hdep 2 rfl
        have h3:x 3=_:=hdep 3 rfl
        clear hdep
        simp only [h2,h3] at hK
        go_simp
        exact hK _ _ rfl hW (fun _ _ h=>h)
       ·
        have h2:x 2=_:=hdep 2 rfl
        have h4:x 4=_:=hdep 4 rfl
        clear hdep
        simp only [h2,h4] at hK
        go_simp
        exact hK _ _ rfl hW (fun _ _ h=>h)
       ·
        have h5:x 5=_:=hdep 5 rfl
        clear hdep
        simp only [h5] at hK
        go_simp
        exact hK _ _ rfl hW (fun _ _ h=>h)
       ·
        have h6:x 6=_:=hdep 6 rfl
        clear hdep
        simp only [h6] at hK
        go_simp
        exact hK _ _ rfl hW (fun _ _ h=>h)
       ·
        have h6:x 6=_:=hdep 6 rfl
        have h7:x 7=_:=hdep 7 rfl
        clear hdep
        simp only [h6,h7] at hK
        go_simp
        refine (HAL.out W hW).mono ?_
        rintro e W' ⟨Aa,ca,rfl,hru,hb⟩
        exact hK _ _ ⟨Aa,ca,rfl,hru⟩ (z8 hW hb) (fun j z h=>YDa13_keep hb j z h)
       ·
        have h6:x 6=_:=hdep 6 rfl
        clear hdep
        simp only [h6] at hK
        go_simp
        exact hK _ _ rfl hW (fun _ _ h=>h)
       ·
        have h6:x 6=_:=hdep 6 rfl
        have h9:x 9=_:=hdep 9 rfl
        have k0:=(hW.cell (p:=⟨Wb,0,none⟩) LT).trans K0
        clear hdep
        simp only [h6,h9] at hK
        go_simp
        exact hK _ _ rfl hW (fun _ _ h=>h)
       ·
        have h6:x 6=_:=hdep 6 rfl
        have h10:x 10=_:=hdep 10 rfl
        obtain ⟨Aa,ca,h8,hru⟩:∃ Aa ca,x 8=.slice Aa j ca∧YA W Aa ((down13 T).map zS):=hdep 8 rfl
        clear hdep
        simp only [h6,h10,h8] at hK
        go_simp
        refine (HSU.out W hW Aa ca hru).mono ?_
        rintro e W' ⟨rfl,hb⟩
        exact hK _ _ rfl (z8 hW hb) (fun j z h=>YDa13_keep hb j z h)
       ·
        have h6:x 6=_:=hdep 6 rfl
        have h11:x 11=_:=hdep 11 rfl
        clear hdep
        simp only [h6,h11] at hK
        go_simp
        exact hK _ _ rfl hW (fun _ _ h=>h)
       ·
        have h12:x 12=_:=hdep 12 rfl
        clear hdep
        simp only [h12] at hK
        go_simp
        exact hK _ _ rfl hW (fun _ _ h=>h)
      case fin2 =>
       intro x W hW hY
       have h13:x 13=.bool true:=hY 13 (by decide)
       have HB7:=za (z8 HB6.out hW)
       clear hY hW
       rw [h13]
       go_wp2
       go_ret
       exact ⟨rfl,HB7.out⟩
end Go.Proofs.YthmomkjingcbiaaGreatDoor
namespace Go.Proofs.YthmomkjingcbiaaGreatDoor.migrateDown
open Go.ChangeShapes Go.WideShapes Go.ChangeAt Go.RowKit
set_option linter.unusedVariables false

theorem own:ownKnob Tryz.prog.godebug=none:=by kernel_rfl
theorem laidOut:laidOutB Tryz.prog=true:=by kernel_rfl

theorem walk (w:World) (hm:vR w) (a0:Option Addr) (len0 cap0:Nat) (l0:List ActN) (s0:IsActsN w a0 len0 l0) :
  Calls Tryz.prog 5 #[.slice a0 len0 cap0] w fun e w'=>e=.returned (.bool true)∧Below w.heap.size w w':=by
 obtain ⟨h1,h2,h3,h4⟩:=s0
 exact mdown13_walk a0 cap0 len0 l0 w hm h1 (by omega) h3

set_option maxRecDepth 100000 in
theorem lifted (os:Os) (started:os.Started) (H:Type) (enc:TypeId×Value→H) :
  ReturnsInHanded {} Tryz.checked os 5 .any (fun w args=>(Rows.migrateDownSpec.pre enc Tryz.prog Tryz.f5 Rows.migrateDownRow.domain false w args∧laidMetH Tryz.prog Rows.migrateDownRow.laid w)∧sizedMet enc Tryz.prog Tryz.f5 (OpenSpec.ofChange Rows.migrateDownSpec) false w args)
   (Rows.migrateDownSpec.post enc Tryz.prog Tryz.f5 false true false false):=by
 refine returns_laid (C:=Tryz.checked) (X:=fun w _=>laidMetH Tryz.prog Rows.migrateDownRow.laid w) own started (by kernel_rfl) Tryz.func5
  (ChangeSpec.witness_shaped (enc:=enc) (C:=Tryz.checked) (os:=os) (X:=fun w _=>laidMetH Tryz.prog Rows.migrateDownRow.laid w) false (World.laidAll Tryz.prog os Rows.migrateDownRow.laid) #[.slice none 0 0] 8 (World.laidAll_os _ _ _)
   (World.shaped_of_ZipB (by kernel_rfl) (by kernel_rfl)) (by kernel_rfl) (by kernel_rfl) (by kernel_rfl)
   (by rw [MakeChecks.laidMetH_plain _ _ _ (by kernel_rfl)]; exact laidMet_laidAll _ (by kernel_rfl) (by kernel_rfl))) ?_
 intro W base args ds gs before hval0 hW hsh
 have hval:∀ (j:Nat) t v,Tryz.f5.params[j]? = some t→args[j]? = some v→Value.okWide Tryz.prog W .any base t v:=hval0
 have hW':=hW
 obtain ⟨p,q,hA0,hV,rfl,hfz,hnd⟩:=hW
 have hA:DataW.TrodAll enc Tryz.prog W 0 (fun _=>true) true Tryz.f5.params.toList args.toList ds p:=hA0
 rw [Tryz.params5] at hA hval
 obtain ⟨v0,vs0,d0,ds0,p0,q0,hargs,rfl,rfl,h0,r0⟩:=trodAll_cons hA
 obtain ⟨rfl,rfl,rfl⟩:=trodAll_nil r0
 obtain rfl:args=#[v0]:=by cases args; simp_all
 obtain ⟨rfl,rfl⟩:=trodVars_none hV
 obtain ⟨a0,len0,cap0,rfl⟩:=okWide_slice Tryz.underlying54 (hval 0 54 v0 rfl rfl)
 have lt0:∀ x∈p0,x.block<W.heap.size:=by obtain ⟨m,hm⟩:=h0; exact DataW.trod_lt m _ _ _ hm
 obtain ⟨l0,s0⟩:=actns_of h0
 clear hA0 hval0
 refine (walk W (len5_of hsh) a0 len0 cap0 l0 s0).mono fun e W' ⟨he,bel⟩=>?_
 subst he
 exact ⟨_,rfl,_,_,_,[],_,[],hW',trodAll_mk1 (shut_bool Tryz.underlying4 _),(trodAll_cons_mk (Below.trod laidOut (by kernel_rfl) (of_decide_eq_true (by kernel_rfl)) h0 bel lt0) trodAll_mk0),rfl,bel.frame _,fun h=>by cases h⟩

theorem row_holds:Rows.MigrateDownSaid :=
 OpenClaim.holds_of_wide 5 Tryz.f5 rfl rfl rfl rfl rfl rfl rfl ⟨rfl,rfl,rfl,rfl,rfl⟩ rfl rfl rfl rfl rfl (by kernel_rfl) Tryz.func5 (by kernel_rfl)
  (of_decide_eq_true (by kernel_rfl)) (by unfold Func.isWrapper; first | (rw [if_pos (by decide +kernel)]; kernel_rfl) | (rw [if_neg (by decide +kernel)]; exact ⟨rfl,rfl⟩))
  (fun os started H enc _=>lifted os started H enc)

theorem proved:Rows.MigrateDownCardSaid :=
 Claim7.holds_tied_plain_at .later [] Rows.migrateDownCard.laidKinds true Rows.migrateDownCard.stood.harness Rows.migrateDownCard.stood.looks row_holds (fun _ h=>by cases h) (by kernel_rfl) (fun _ h=>by cases h) migrateDown_row_tie rfl ⟨rfl,rfl⟩ (by kernel_rfl) rfl
  (fun f fn hf hfn=>by
   obtain rfl:f=5:=Option.some.inj ((show Tryz.prog.funcNamed Rows.migrateDownRow.func=some 5 by kernel_rfl).symm.trans hf) |>.symm
   obtain rfl:fn=Tryz.f5:=(Option.some.inj (Tryz.func5.symm.trans hfn)).symm
   exact ⟨by kernel_rfl,fun j t ht=>by
    rw [Tryz.params5] at ht
    have hm:t∈[54]:=by simpa using Array.mem_of_getElem? ht
    have hall:([54].all fun u=>!Tryz.prog.wantsStandIn u)=true:=by kernel_rfl
    exact (show Tryz.prog.wantsStandIn t=false by simpa using List.all_eq_true.1 hall t hm)⟩)
  (by kernel_rfl)
end Go.Proofs.YthmomkjingcbiaaGreatDoor.migrateDown
