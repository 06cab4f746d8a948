/-
  The texts that the laws of this seat share, part 5: what the code and the document's own answers tell, walked function by function.
  Conditions: each theorem's own.
-/
import Derived.WideKeyEntry
import Derived.Test.YthmomkjingcbiaaGreatDoorMigDBD
set_option maxHeartbeats 16000000
namespace Go.Proofs.YthmomkjingcbiaaGreatDoor
open Go.RowKit Go.Maps Go.Sort Go.Shelf

theorem le_val8:∀ m:List UInt8,le (val m) m.length=m
 | []=>rfl
 | b::l=>by
  have hb:b.toNat<256:=b.toNat_lt
  rw [val,List.length_cons,le_cons,show (b.toNat+256 * val l) / 256=val l by omega,le_val8 l]
  congr 1
  apply UInt8.toNat_inj.1
  simp only [UInt8.toNat_ofNat']
  omega

def uP (st:St):List UInt8×List UInt8:=if (Yt 1 st).1.e=0 then ((yk st 65535).2,(yk (yk st 65535).1 65535).2) else ([],[])
def yR:Nat→St→St×zB
 | 0,st=>(st,[])
 | k+1,st=>((yR k (Yt 1 st).1).1,uP st::(yR k (Yt 1 st).1).2)
def Zm (st:St):St×zB :=
 if 12<(yZ st 2).2 then (xy (yZ st 2).1 7,[])
 else (xy (yR (yZ st 2).2 (yZ st 2).1).1 (ofE ((yR (yZ st 2).2 (yZ st 2).1).2.map zS)),(yR (yZ st 2).2 (yZ st 2).1).2)
def endS8 (r:St×zB):Int×zB:=if r.1.e≠0 then (r.1.e,[]) else if 0<r.1.bs.length then (3,[]) else (0,r.2)
def jU:List UInt8→Int×zB
 | []=>(2,[])
 | b::r=>if b=1 then endS8 (Zm ⟨r,0⟩) else (6,[])

theorem Vx (b:UInt8) (r:List UInt8):jU (b::r)=if b=1 then endS8 (Zm ⟨r,0⟩) else (6,[]):=rfl
def pairB (q:List UInt8×List UInt8):List UInt8:=Zg 1 (zS q)
def shotR (L:zB):List UInt8:=le 1 1++(le L.length 2++L.flatMap pairB)

/-! ### The code's way -/
def vo (st:St):St:=if (yZ st 1).2=1 then (yZ st 1).1 else xy (yZ st 1).1 6
def uc (st:St):St×Nat:=if 12<(yZ st 2).2 then (xy (yZ st 2).1 7,0) else yZ st 2
def Jp (r:St×zB):Int×zB:=if r.1.e≠0 then (r.1.e,[]) else if ofE (r.2.map zS)≠0 then (ofE (r.2.map zS),[]) else if endS r.1≠0 then (endS r.1,[]) else (0,r.2)

theorem failS_e8 {st:St} {e:Int} (h:st.e≠0):xy st e=st:=by unfold xy; rw [if_pos (.inr h)]
theorem failS_z8 (st:St):xy st 0=st:=by unfold xy; rw [if_pos (.inl rfl)]
theorem vK {st:St} {e:Int} (h:(xy st e).e=0):e=0∧st.e=0∧xy st e=st:=by
 by_cases he:e=0
 ·
  subst he
  rw [failS_z8] at h ⊢
  exact ⟨rfl,h,rfl⟩
 ·
  unfold xy at h
  by_cases hs:st.e=0
  ·
   rw [if_neg (by simp [he,hs])] at h
   exact absurd h he
  ·
   rw [if_pos (.inr hs)] at h
   exact absurd h hs
theorem JP {st:St} (n:Nat) (h:st.e≠0):(xL st n).1.e=st.e:=by
 unfold xL
 split
 ·
  rw [failS_e8 h]
 ·
  rfl
theorem numS_keep8 {st:St} (n:Nat) (h:st.e≠0):(yZ st n).1.e=st.e:=JP n h
theorem getS18 (st:St):Yt 1 st=(xy (yk (yk st 65535).1 65535).1 (xK 1 (one6 (yk st 65535).2 (yk (yk st 65535).1 65535).2)),one6 (yk st 65535).2 (yk (yk st 65535).1 65535).2):=by
 unfold Yt Fh
 rw [if_pos rfl]
theorem Xx (st:St):(Yt 1 st).1.bs.length≤st.bs.length:=by
 rw [getS18]
 exact Nat.le_trans (ua _ _) (Nat.le_trans (qm _ _) (qm _ _))
theorem vS:∀ (k:Nat) (st:St),(yR k st).2.length=k
 | 0,_=>rfl
 | k+1,st=>by
  show (uP st::(yR k (Yt 1 st).1).2).length=_
  rw [List.length_cons,vS k]

/-! ### What was read is what is written -/
theorem Vo {st:St} {n:Nat} (h:(xL st n).1.e=0):st.e=0∧(xL st n).2.length=n∧st.bs=(xL st n).2++(xL st n).1.bs:=by
 unfold xL at h ⊢
 by_cases hl:st.bs.length<n
 ·
  rw [if_pos hl] at h
  obtain ⟨h1,_⟩:=vK h
  cases h1
 ·
  rw [if_neg hl] at h ⊢
  exact ⟨h,by simp only [List.length_take]; omega,(List.take_append_drop n st.bs).symm⟩
theorem QG {st:St} {n:Nat} (h:(yZ st n).1.e=0):st.e=0∧st.bs=le (yZ st n).2 n++(yZ st n).1.bs:=by
 obtain ⟨h1,h2,h3⟩:=Vo (st:=st) (n:=n) h
 refine ⟨h1,?_⟩
 have:=le_val8 (xL st n).2
 rw [h2] at this
 show st.bs=le (val (xL st n).2) n++(xL st n).1.bs
 rw [this]
 exact h3
theorem Vm {st:St} {m:Int} (h:(yk st m).1.e=0):st.e=0∧st.bs=xp (mk6 (yk st m).2)++(yk st m).1.bs:=by
 obtain ⟨h1,h2,h3⟩:=Vo (st:=(yi st m).1) (n:=(yi st m).2) h
 have h4:(yi st m)=((yZ st 2).1,(yZ st 2).2):=by
  unfold yi at h1 ⊢
  split at h1
  ·
   obtain ⟨h5,_⟩:=vK h1
   cases h5
  ·
   rename_i hc
   rw [if_neg hc]
 have h5:(yZ st 2).1.e=0:=by rw [h4] at h1; exact h1
 obtain ⟨h6,h7⟩:=QG h5
 refine ⟨h6,?_⟩
 have e1:(yi st m).1=(yZ st 2).1:=by rw [h4]
 have e2:(yi st m).2=(yZ st 2).2:=by rw [h4]
 show st.bs=xp (mk6 (xL (yi st m).1 (yi st m).2).2)++(xL (yi st m).1 (yi st m).2).1.bs
 have h8:(mk6 (xL (yi st m).1 (yi st m).2).2).data.toList=(xL (yi st m).1 (yi st m).2).2:=by simp [mk6]
 unfold xp
 rw [mk6_size,h8,h2,e2,h7,List.append_assoc,← e1]
 rw [e2] at h3
 rw [← h3]
theorem getS1_got8 {st:St} (h:(Yt 1 st).1.e=0):st.e=0∧xK 1 (zS (uP st))=0∧st.bs=pairB (uP st)++(Yt 1 st).1.bs:=by
 have ht:uP st=((yk st 65535).2,(yk (yk st 65535).1 65535).2):=by unfold uP; rw [if_pos h]
 rw [getS18] at h
 obtain ⟨h1,h2,h3⟩:=vK h
 obtain ⟨h4,h5⟩:=Vm h2
 obtain ⟨h6,h7⟩:=Vm h4
 rw [ht]
 refine ⟨h6,h1,?_⟩
 rw [getS18]
 dsimp only
 rw [h3]
 show st.bs=(xp (mk6 (yk st 65535).2)++xp (mk6 (yk (yk st 65535).1 65535).2)++[])++_
 rw [h7,List.append_nil,List.append_assoc,← h5]
theorem YD:∀ (k:Nat) {st:St},(yR k st).1.e=0→st.e=0∧(∀ q∈(yR k st).2,xK 1 (zS q)=0)∧st.bs=(yR k st).2.flatMap pairB++(yR k st).1.bs
 | 0,st,h=>⟨h,(fun q hq=>by cases hq),by simp [yR]⟩
 | k+1,st,h=>by
  obtain ⟨h1,h2,h3⟩:=YD k (st:=(Yt 1 st).1) h
  obtain ⟨h4,h5,h6⟩:=getS1_got8 h1
  refine ⟨h4,fun q hq=>?_,?_⟩
  ·
   rcases List.mem_cons.1 hq with rfl | hq
   ·
    exact h5
   ·
    exact h2 q hq
  ·
   show st.bs=(uP st::(yR k (Yt 1 st).1).2).flatMap pairB++(yR k (Yt 1 st).1).1.bs
   rw [List.flatMap_cons,List.append_assoc,← h3]
   exact h6
theorem rowS8_got8 {st:St} (h:(Zm st).1.e=0):st.e=0∧(∀ q∈(Zm st).2,xK 1 (zS q)=0)∧ofE ((Zm st).2.map zS)=0∧st.bs=le (Zm st).2.length 2++((Zm st).2.flatMap pairB++(Zm st).1.bs):=by
 unfold Zm at h ⊢
 by_cases hc:12<(yZ st 2).2
 ·
  rw [if_pos hc] at h
  obtain ⟨h1,_⟩:=vK h
  cases h1
 ·
  rw [if_neg hc] at h ⊢
  dsimp only at h ⊢
  obtain ⟨h1,h2,h3⟩:=vK h
  obtain ⟨h4,h5,h6⟩:=YD _ h2
  obtain ⟨h7,h8⟩:=QG h4
  refine ⟨h7,h5,h1,?_⟩
  rw [h3,vS,← h6]
  exact h8
theorem Qq {bs:List UInt8} (h:(jU bs).1=0):(∀ q∈(jU bs).2,xK 1 (zS q)=0)∧ofE ((jU bs).2.map zS)=0∧shotR (jU bs).2=bs:=by
 cases bs with
 | nil=>cases h
 | cons b r =>
  rw [Vx] at h ⊢
  by_cases hb:b=1
  ·
   rw [if_pos hb] at h ⊢
   unfold endS8 at h ⊢
   by_cases he:(Zm ⟨r,0⟩).1.e≠0
   ·
    rw [if_pos he] at h
    exact absurd h he
   ·
    rw [if_neg he] at h ⊢
    by_cases hl:0<(Zm ⟨r,0⟩).1.bs.length
    ·
     rw [if_pos hl] at h
     cases h
    ·
     rw [if_neg hl]
     obtain ⟨_,h2,h3,h4⟩:=rowS8_got8 (st:=⟨r,0⟩) (by simpa using he)
     refine ⟨h2,h3,?_⟩
     have h5:(Zm ⟨r,0⟩).1.bs=[]:=List.eq_nil_of_length_eq_zero (by omega)
     rw [h5,List.append_nil] at h4
     unfold shotR
     dsimp only at h4 ⊢
     rw [← h4,hb]
     rfl
  ·
   rw [if_neg hb] at h
   cases h

/-! ### What is written is read -/
theorem pair_little8 {q:List UInt8×List UInt8} (h:xK 1 (zS q)=0):q.1.length≤12∧q.2.length≤12:=by
 obtain ⟨hl,_⟩:=fz h
 have h1:=hl.nm
 have h2:=hl.hs
 unfold zS at h1 h2
 dsimp only at h1 h2
 rw [← zq,yC] at h1 h2
 exact ⟨h1,h2⟩

structure May8 (l:List Us):Prop where
 all:∀ q∈fC l,xK 1 (zS q)=0
 of:ofE ((fC l).map zS)=0
 few:(fC l).length≤12
theorem YQ:∀ (L:zB),fC (L.map zS)=L
 | []=>rfl
 | q::L=>by
  show ((zS q).nm.data.toList,(zS q).hs.data.toList)::fC (L.map zS)=_
  rw [YQ L]
  unfold zS
  dsimp only
  rw [yC,yC]

/-! ### The code's way is the document's -/
theorem readS_code (bs:List UInt8):Jp (yR (uc (vo ⟨bs,0⟩)).2 (uc (vo ⟨bs,0⟩)).1)=jU bs:=by
 have hend:∀ (st:St),st.e=0→endS st=if 0<st.bs.length then 3 else 0:=fun st h=>by unfold endS; rw [h]
 have hstop:∀ (st:St) (e:Int),st.e=e→e≠0→st.bs=[]→Jp (yR (uc st).2 (uc st).1)=(e,[]):=fun st e h1 h2 h3=>by
  have hn:(yZ st 2).1.e=e∧(yZ st 2).2=0:=by
   have:=numS_keep8 2 (st:=st) (by rw [h1]; exact h2)
   refine ⟨by rw [this,h1],?_⟩
   unfold yZ xL
   rw [if_pos (by rw [h3]; decide)]
   rfl
  have hc:uc st=yZ st 2:=by unfold uc; rw [if_neg (by omega)]
  rw [hc,hn.2]
  show Jp ((yZ st 2).1,[])=_
  unfold Jp
  rw [if_pos (by show (yZ st 2).1.e≠0; rw [hn.1]; exact h2)]
  show ((yZ st 2).1.e,_)=_
  rw [hn.1]
 cases bs with
 | nil=>exact hstop _ 2 rfl (by decide) rfl
 | cons b r =>
  have hnum:yZ ⟨b::r,0⟩ 1=(⟨r,0⟩,b.toNat):=by
   unfold yZ xL
   rw [if_neg (by simp)]
   simp [val]
  rw [Vx]
  by_cases hb:b=1
  ·
   subst hb
   rw [if_pos rfl]
   have hs:vo ⟨1::r,0⟩=⟨r,0⟩:=by unfold vo; rw [hnum]; rfl
   rw [hs]
   unfold Zm uc
   by_cases hc:12<(yZ ⟨r,0⟩ 2).2
   ·
    rw [if_pos hc,if_pos hc]
    have h7:(xy (yZ ⟨r,0⟩ 2).1 7).e≠0:=fun h=>by
     obtain ⟨h1,_⟩:=vK h
     cases h1
    show Jp (xy (yZ ⟨r,0⟩ 2).1 7,[])=_
    unfold Jp endS8
    rw [if_pos h7,if_pos h7]
   ·
    rw [if_neg hc,if_neg hc]
    generalize yR (yZ ⟨r,0⟩ 2).2 (yZ ⟨r,0⟩ 2).1=q
    unfold Jp endS8
    by_cases he:q.1.e=0
    ·
     rw [if_neg (by simpa using he),hend q.1 he]
     by_cases ho:ofE (q.2.map zS)=0
     ·
      rw [if_neg (by simpa using ho),ho]
      dsimp only
      rw [failS_z8]
      by_cases hl:0<q.1.bs.length
      ·
       simp [hl,he]
      ·
       simp [hl,he]
     ·
      rw [if_pos ho]
      dsimp only
      have:(xy q.1 (ofE (q.2.map zS))).e=ofE (q.2.map zS):=by
       unfold xy
       rw [if_neg (by simp [ho,he])]
      rw [this,if_pos ho]
    ·
     rw [if_pos he]
     dsimp only
     rw [failS_e8 he,if_pos he]
  ·
   rw [if_neg hb]
   have hs:vo ⟨b::r,0⟩=⟨[],6⟩:=by
    unfold vo
    rw [hnum]
    dsimp only
    rw [if_neg (show ¬ b.toNat=1 from fun h=>hb (UInt8.toNat_inj.1 h))]
    rfl
   rw [hs]
   exact hstop _ 6 rfl (by decide) rfl

theorem Qk (st:St):(vo st).bs.length≤st.bs.length:=by
  unfold vo
  split
  · exact qr st 1
  · exact Nat.le_trans (ua _ _) (qr st 1)
theorem FL (st:St):(uc st).1.bs.length≤st.bs.length:=by
  unfold uc
  split
  · exact Nat.le_trans (ua _ _) (qr st 2)
  · exact qr st 2
theorem countS_few (st:St):(uc st).2≤12:=by
  unfold uc
  split
  · exact Nat.zero_le _
  · omega

set_option maxRecDepth 100000 in
theorem Ud (B:Nat) (st:St) (w:World) (h:Rdr w B st) (hl:st.bs.length≤1000) :
    Calls Tryz.prog 176 #[.pointer (some ⟨B,0,none⟩)] w (Void w B (vo st)):=by
  have HN:=za (Fa B st w h (by omega))
  obtain ⟨s0,hs0⟩:∃ s0,s0=vo st:=⟨_,rfl⟩
  have HS:Hid (s0=if (yZ st 1).2=1 then (yZ st 1).1 else xy (yZ st 1).1 6):=hs0
  rw [← hs0]
  clear hs0 h hl
  generalize (yZ st 1).2=x at *
  generalize (yZ st 1).1=s1 at *
  go_enter Tryz.func176,Tryz.ntmps176
  go_wp2_with fail
  with_reducible refine HN.out.mono ?_
  rintro e w1 ⟨rfl,hd⟩
  have HD:=za hd
  clear hd HN
  by_cases hx:x=1
  · have hs:=HS.out
    rw [if_pos hx] at hs
    subst hx
    subst hs
    clear HS
    go_wp2
    go_end0
    exact ⟨rfl,HD.out⟩
  · have hs:=HS.out
    rw [if_neg hx] at hs
    have hz:((x:Int) != 1)=true:=by simp; omega
    have HF:=za (qB B s1 6 w1 HD.out.rdr)
    rw [← hs] at HF
    clear hs HS
    go_wp2_with fail
    with_reducible refine HF.out.mono ?_
    rintro e w2 ⟨rfl,hd2⟩
    have HD2:=za (HD.out.next hd2)
    clear hd2 HF HD
    go_wp2
    go_end0
    exact ⟨rfl,HD2.out⟩

set_option maxRecDepth 100000 in
theorem Jm (B:Nat) (st:St) (w:World) (h:Rdr w B st) (hl:st.bs.length≤1000) :
    Calls Tryz.prog 178 #[.pointer (some ⟨B,0,none⟩)] w fun e w'=>e=.returned (.int .i64 (uc st).2)∧Did w B (uc st).1 w':=by
  have HN:=za (Vs B st w h (by omega))
  have hx2:(yZ st 2).2<65536:=X7 st 2
  obtain ⟨c,hc⟩:∃ c,c=uc st:=⟨_,rfl⟩
  have HS:Hid (c=if 12<(yZ st 2).2 then (xy (yZ st 2).1 7,0) else ((yZ st 2).1,(yZ st 2).2)):=hc
  rw [← hc]
  clear hc h hl
  generalize (yZ st 2).2=x at *
  generalize (yZ st 2).1=s1 at *
  obtain ⟨s2,n⟩:=c
  go_enter Tryz.func178,Tryz.ntmps178
  go_wp2_with fail
  with_reducible refine HN.out.mono ?_
  rintro e w1 ⟨rfl,hd⟩
  have HD:=za hd
  clear hd HN
  by_cases hx:12<x
  · have hs:=HS.out
    rw [if_pos hx] at hs
    have hz:(x:Int) > 12:=by omega
    obtain ⟨h1,h2⟩:=Prod.mk.inj hs
    have HF:=za (qB B s1 7 w1 HD.out.rdr)
    rw [← h1] at HF
    subst h2
    clear hs HS h1
    go_wp2_with fail
    with_reducible refine HF.out.mono ?_
    rintro e w2 ⟨rfl,hd2⟩
    have HD2:=za (HD.out.next hd2)
    clear hd2 HF HD
    go_wp2
    go_ret
    exact ⟨rfl,HD2.out⟩
  · have hs:=HS.out
    rw [if_neg hx] at hs
    have hz:¬ (x:Int) > 12:=by omega
    obtain ⟨h1,h2⟩:=Prod.mk.inj hs
    subst h1
    subst h2
    clear hs HS
    go_wp2
    go_ret
    exact ⟨rfl,HD.out⟩

theorem get8_calls (B:Nat) (st:St) (w:World) (h:Rdr w B st) (hl:st.bs.length≤1000) (hm:vR w) (hBg:B≠0) :
    Calls Tryz.prog 236 #[.pointer (some ⟨B,0,none⟩),.int .i64 1] w fun e w'=>e=.returned (zS (uP st)).v∧Did w B (Yt 1 st).1 w':=by
  have l1:=qm st 65535
  have f1:=jI st 65535
  have hg:=getS18 st
  have ht:uP st=if (Yt 1 st).1.e=0 then ((yk st 65535).2,(yk (yk st 65535).1 65535).2) else ([],[]):=rfl
  rw [ht,hg]
  clear ht hg
  rcases h1:yk st 65535 with ⟨s1,nm⟩
  rw [h1] at l1 f1
  have f2:=jI s1 65535
  dsimp only at l1 f1 ⊢
  rcases h2:yk s1 65535 with ⟨s2,hs⟩
  rw [h2] at f2
  dsimp only at f2 ⊢
  refine (get61_one B st w h (by omega) hm hBg nm hs s1 s2 _ h1 h2 rfl (by omega) (by omega)).mono fun e w' ⟨he,hd⟩=>⟨?_,hd⟩
  rw [he]
  split <;> rfl

theorem YC {w:World} {B b0:Nat} {st:St} {v:Value} {n:Nat} {xs:List Value} (hr:Rdr w B st) (h:w.ownsRow b0 47 5 v n xs):v.ownBlock≠some B:=by
  obtain ⟨u,hb,_⟩:=hr
  rcases h.2 with ⟨rfl,_⟩ | ⟨g,cap,cur,rfl,_,hg,_⟩
  · simp [Value.ownBlock]
  · intro he
    have:g=B:=by simpa [Value.ownBlock] using he
    subst this
    have:=hb.symm.trans hg
    simp at this
theorem Rdr.beside {w w':World} {B b0:Nat} {st:St} {v:Value} {n:Nat} {xs:List Value} (hr:Rdr w B st) (ho:w.ownsRow b0 47 5 v n xs) (ht:zm (fun i=>v.ownBlock=some i) w w'):Rdr w' B st:=by
  have hne:=YC hr ho
  have hB:=hr.lt
  obtain ⟨u,hu,hru⟩:=hr
  refine ⟨u,(ht.block B hB hne).trans hu,?_⟩
  rcases hru with h0 | ⟨g,off,cc,rfl,h1,h2,h3,h4,hbk,h5⟩
  · exact .inl h0
  · have hgn:v.ownBlock≠some g:=by
      obtain ⟨cur,fr,hcur⟩:=hbk
      intro he
      rcases ho.2 with ⟨hv,_⟩ | ⟨g',cap',cur',hv,_,hg',_⟩
      · rw [hv] at he; simp [Value.ownBlock] at he
      · rw [hv] at he
        have:g'=g:=by simpa [Value.ownBlock] using he
        subst this
        have:=hcur.symm.trans hg'
        simp at this
    exact .inr ⟨g,off,cc,rfl,h1,h2,Nat.lt_of_lt_of_le h3 ht.size,h4,hbk.keep ht hgn,fun j hj=>(ht.cell (p:=⟨g,off+j,none⟩) h3 hgn).trans (h5 j hj)⟩

theorem JI (l:List Us) (u:Us):xz (l++[u])=xz l++u.cells.toList:=by
  unfold xz
  rw [List.flatMap_append]
  simp

def Users8 (w:World) (B:Nat) (n:Nat) (st:St) (L:zB) (e:Ending) (w':World):Prop :=
  ∃ v,e=.returned v∧w'.ownsRow w.heap.size 47 5 v n (xz (L.map zS))∧Did w B st w'

set_option maxRecDepth 100000 in
theorem Qa (B n:Nat) (st:St) (w:World) (h:Rdr w B st) (hl:st.bs.length≤1000) (hn:n≤12) (hm:vR w) (hBg:B≠0) :
    Calls Tryz.prog 177 #[.pointer (some ⟨B,0,none⟩),.int .i64 n] w (Users8 w B n (yR n st).1 (yR n st).2):=by
  obtain ⟨i0,hi,hz0,hz1,hz2⟩:=info_parts J1
  have hB:=h.lt
  have HR:=za (Did.refl h)
  have HM:Hid (∀ W s,Did w B s W→vR W):=fun W s hd=>by
    obtain ⟨hlt,m,hcm⟩:=hm
    exact ⟨Nat.lt_of_lt_of_le hlt hd.2.size,m,(hd.2.cell (p:=⟨0,0,none⟩) hlt (fun e=>hBg e.symm)).trans hcm⟩
  have HBG:=za hBg
  obtain ⟨us,hus⟩:∃ us,us=yR n st:=⟨_,rfl⟩
  rw [← hus]
  have HUS:Hid (∃ acc:zB,acc.length=0∧st.bs.length≤1000∧us=((yR (n - 0) st).1,acc++(yR (n - 0) st).2)):=⟨[],rfl,hl,hus⟩
  have HLN:Hid (us.2.length=n):=by rw [hus]; exact vS n st
  clear hus h hl hm hBg
  go_enter Tryz.func177,Tryz.ntmps177
  go_wp2
  go_loopg [5,7] n (fun gg s5 s7 wr=>∃ (k:Nat) (acc:zB) (s1:St),k≤n∧n - k≤gg∧s7=.int .i64 k∧Hid (acc.length=k∧s1.bs.length≤1000∧us=((yR (n - k) s1).1,acc++(yR (n - k) s1).2))∧Hid (Did w B s1 wr)∧Hid (wr.ownsRow w.heap.size 47 5 s5 k (xz (acc.map zS))))
  case atStart =>
    obtain ⟨acc,h0,h1,h2⟩:=HUS.out
    have:acc=[]:=List.eq_nil_of_length_eq_zero h0
    subst this
    exact ⟨0,[],st,Nat.zero_le _,by omega,rfl,⟨rfl,h1,h2⟩,HR.out,World.ownsRow_nil _ _ _ _⟩
  case round =>
    clear HUS HR
    obtain ⟨k,acc,s1,hk,hg,rfl,HAC,HD,HO⟩:=hrel
    by_cases hlt:k<n
    · have hltz:(k:Int)<(n:Int):=by omega
      have hac:=HAC.out
      rw [show n - k=(n - (k+1))+1 by omega] at hac
      have HAC2:Hid ((acc++[uP s1]).length=k+1∧(Yt 1 s1).1.bs.length≤1000∧us=((yR (n - (k+1)) (Yt 1 s1).1).1,(acc++[uP s1])++(yR (n - (k+1)) (Yt 1 s1).1).2)) :=
        ⟨by rw [List.length_append,hac.1]; rfl,Nat.le_trans (Xx s1) hac.2.1,by rw [List.append_assoc]; exact hac.2.2⟩
      have HG:Hid (Calls Tryz.prog 236 #[.pointer (some ⟨B,0,none⟩),.int .i64 1] wr fun e w'=>e=.returned (.agg #[.string (tx7 (uP s1).1),.string (tx7 (uP s1).2),.string ⟨#[]⟩,.bool false,.slice none 0 0])∧Did wr B (Yt 1 s1).1 w'):=get8_calls B s1 wr HD.out.1 hac.2.1 (HM.out wr s1 HD.out) HBG.out
      have HT:Hid (xz ((acc++[uP s1]).map zS)=xz (acc.map zS)++[.string (tx7 (uP s1).1),.string (tx7 (uP s1).2),.string ⟨#[]⟩,.bool false,.slice none 0 0]):=by
        show _=_
        rw [List.map_append]
        exact JI _ _
      clear hac HAC
      generalize acc++[uP s1]=acc2 at *
      generalize (Yt 1 s1).1=s2 at *
      generalize tx7 (uP s1).1=sn at *
      generalize tx7 (uP s1).2=sh at *
      go_wp2_with fail
      with_reducible refine HG.out.mono ?_
      rintro e w2 ⟨rfl,hd⟩
      have HD2:=za (HD.out.next hd)
      have HO2:=za (qq (b1:=w.heap.size) HO.out (Nat.le_refl _) hd.2 (fun j hj he=>by have he':j=B:=he; omega))
      have hsz:=HD2.out.2.size
      clear hd HG HD HO
      go_wp2_with (first
        | (at_builtin; refine wpList_append_own _ rfl _ _ 57 rfl w.heap.size 47 i0 (.agg #[.string ⟨#[]⟩,.string ⟨#[]⟩,.string ⟨#[]⟩,.bool false,.slice none 0 0]) 5 80 Tryz.underlying57 hi hz0 hz1 hz2 rfl (by decide) _ _ _ rfl (HO2.out.alloc _) ⟨w2.heap.size,0,none⟩ 1 1 [.string sn,.string sh,.string ⟨#[]⟩,.bool false,.slice none 0 0] rfl rfl
            (fun j u hu=>by rw [Addr.add_lit,Nat.zero_add,World.cell?_alloc_at _ _ _ _ rfl]; simpa using hu) (by simp [Value.oneCell']) (by unfold maxLen; omega) (by omega) (by simp; omega) ?_
           intro v' w3 hown' hgrow _
           have HO3:=za hown'
           have HG3:=za hgrow
           clear hown' hgrow)
        | fail)
      go_roundg (n - (k+1))
      case measure=>omega
      case rel =>
        refine ⟨k+1,acc2,s2,by omega,by omega,by go_num,HAC2,?_,(show Hid _ from by rw [HT.out]; exact HO3.out)⟩
        have ht0:zm (fun i=>u5.ownBlock=some i) w2 w3:=(((zm.refl _ w2).alloc _).grown HG3.out (fun k hk _=>hk))
        exact za ⟨HD2.out.1.beside HO2.out ht0,HD2.out.2.next ht0 (fun i hi he=>by have:=(HO2.out.lt i he).1; omega)⟩
    · have hltz:¬ (k:Int)<(n:Int):=by omega
      obtain rfl:k=n:=by omega
      have hac:=HAC.out
      rw [Nat.sub_self] at hac
      have e1:us.1=s1:=by rw [hac.2.2]; rfl
      have e2:us.2=acc:=by rw [hac.2.2]; exact List.append_nil acc
      have HF:Hid (Users8 w B k us.1 us.2 (.returned u5) wr):=⟨u5,rfl,by rw [e2]; exact HO.out,by rw [e1]; exact HD.out⟩
      clear hac e1 e2 HAC HO HD
      go_wp2
      go_ret
      exact HF.out

def Read8 (w:World) (r:Int×zB) (e:Ending) (w':World):Prop :=
 (r.1≠0∧e=.returned (.tuple #[.pointer none,.int .i64 r.1])∧Below w.heap.size w w')∨(r.1=0∧∃ B,e=.returned (.tuple #[.pointer (some ⟨B,0,none⟩),.int .i64 0])∧jG w w' B r.2)

theorem Q2 {q:List UInt8×List UInt8} {w:World} (h:q.1.length≤1000∧q.2.length≤1000):(zS q).Ok w:=by
 have s1:(tx7 q.1).size≤1000:=by rw [← zq]; simpa [tx7] using h.1
 have s2:(tx7 q.2).size≤1000:=by rw [← zq]; simpa [tx7] using h.2
 exact { rd:=fun h=>absurd rfl h,nm:=Nat.le_trans s1 (by decide),hs:=Nat.le_trans s2 (by decide),ml:=Nat.zero_le _,nil:=fun _=>rfl,len:=Nat.le_refl _,cap:=Nat.zero_le _,all:=fun s hs=>by cases hs }
theorem JO (st:St) (h:st.bs.length≤1000):(uP st).1.length≤1000∧(uP st).2.length≤1000:=by
 have l1:=qm st 65535
 have f1:=jI st 65535
 have f2:=jI (yk st 65535).1 65535
 unfold uP
 split
 ·
  exact ⟨by dsimp only; omega,by dsimp only; omega⟩
 ·
  exact ⟨Nat.zero_le _,Nat.zero_le _⟩
theorem ZO:∀ (k:Nat) (st:St),st.bs.length≤1000→∀ q∈(yR k st).2,q.1.length≤1000∧q.2.length≤1000
 | 0,_,_,q,hq=>by cases hq
 | k+1,st,h,q,hq=>by
  rcases List.mem_cons.1 hq with rfl | hq
  ·
   exact JO st h
  ·
   exact ZO k (Yt 1 st).1 (Nat.le_trans (Xx st) h) q hq

set_option maxRecDepth 100000 in
theorem F7 (u:Value) (bs:List UInt8) (w:World) (hu:Rd w u bs) (hl:bs.length≤1000) (hm:vR w) :
  Calls Tryz.prog 86 #[u] w (Read8 w (jU bs)):=by
 rw [← readS_code]
 have HOF:=za (of_calls u bs w hu (by omega))
 have HM:=za hm
 have hc:=countS_few (vo ⟨bs,0⟩)
 have l1:=Qk ⟨bs,0⟩
 have l2:=FL (vo ⟨bs,0⟩)
 have l0:(⟨bs,0⟩:St).bs.length≤1000:=hl
 have HSC:Hid (∀ W R,Rdr W R ⟨bs,0⟩→Calls Tryz.prog 176 #[.pointer (some ⟨R,0,none⟩)] W (Void W R (vo ⟨bs,0⟩))):=fun W R hr=>Ud R _ W hr l0
 generalize vo ⟨bs,0⟩=s1 at *
 have HCT:Hid (∀ W R,Rdr W R s1→Calls Tryz.prog 178 #[.pointer (some ⟨R,0,none⟩)] W fun e w'=>e=.returned (.int .i64 (uc s1).2)∧Did W R (uc s1).1 w'):=fun W R hr=>Jm R s1 W hr (by omega)
 generalize hcs:uc s1=cs at *
 obtain ⟨s2,n⟩:=cs
 dsimp only at *
 clear hcs
 have hsh:=ZO n s2 (by omega)
 have hln:=vS n s2
 have HUR:Hid (∀ W R,Rdr W R s2→vR W→R≠0→Calls Tryz.prog 177 #[.pointer (some ⟨R,0,none⟩),.int .i64 n] W (Users8 W R n (yR n s2).1 (yR n s2).2)):=fun W R hr hm hR=>Qa R n s2 W hr (by omega) hc hm hR
 generalize hus:yR n s2=us at *
 obtain ⟨s3,L⟩:=us
 dsimp only at *
 clear hus
 have HER:Hid (∀ W R,Rdr W R s3→Calls Tryz.prog 174 #[.pointer (some ⟨R,0,none⟩)] W fun e w'=>e=.returned (.int .i64 s3.e)∧W=w'):=fun W R hr=>Vw R s3 W hr
 have HEN:Hid (∀ W R,Rdr W R s3→Calls Tryz.prog 175 #[.pointer (some ⟨R,0,none⟩)] W fun e w'=>e=.returned (.int .i64 (endS s3))∧W=w'):=fun W R hr=>rend_calls R s3 W hr
 have HLB:Hid (n=(L.map zS).length):=by show n=_; rw [List.length_map,hln]
 have HOU:Hid (∀ A c W,YA W A (L.map zS)→vR W→Calls Tryz.prog 83 #[.slice A n c] W fun e w'=>(ofE (L.map zS)≠0∧e=.returned (.tuple #[.pointer none,.int .i64 (ofE (L.map zS))])∧Below W.heap.size W w')∨(ofE (L.map zS)=0∧∃ B,e=.returned (.tuple #[.pointer (some ⟨B,0,none⟩),.int .i64 0])∧jG W w' B L)):=fun A c W hr hm=>by
  have:=QC A c n (L.map zS) W HLB.out (by omega) hr (fun u hu=>by
   obtain ⟨q,hq,rfl⟩:=List.mem_map.1 hu
   exact Q2 (hsh q hq)) hm
  rwa [YQ] at this
 obtain ⟨out,hout⟩:∃ out,out=Jp (s3,L):=⟨_,rfl⟩
 have HO:Hid (out=if s3.e≠0 then (s3.e,[]) else if ofE (L.map zS)≠0 then (ofE (L.map zS),[]) else if endS s3≠0 then (endS s3,[]) else (0,L)):=hout
 rw [← hout]
 obtain ⟨A0,c0,rfl⟩:=hu.shape
 clear hout hu hm hl l0 l1 l2 hsh hln hc
 generalize ofE (L.map zS)=oe at *
 generalize endS s3=en at *
 go_enter Tryz.func86,Tryz.ntmps86
 go_wp2_with fail
 with_reducible refine HOF.out.mono ?_
 rintro e w1 ⟨R,hR,rfl,hr,ht⟩
 have hb1:=ht.below (fun _ f=>f.elim)
 have HB1:=za hb1
 have HR1:=za (Did.refl hr)
 have hRM:R≠0:=by have:=HM.out.1; omega
 have HRM:=za hRM
 have HM1:Hid (∀ W s,Did w1 R s W→vR W):=fun W s hd=>by
  obtain ⟨hlt,m,hcm⟩:=HM.out.later HB1.out
  exact ⟨Nat.lt_of_lt_of_le hlt hd.2.size,m,(hd.2.cell (p:=⟨0,0,none⟩) hlt (fun e=>hRM e.symm)).trans hcm⟩
 have HBW:Hid (∀ W s,Did w1 R s W→Below w.heap.size w W):=fun W s hd=>((ht.mono (S':=fun i=>i=R) (fun _ _ f=>f.elim)).next hd.2 (fun _ _ h=>h)).below (fun i hi=>by omega)
 clear hr ht hb1 HOF hRM HM HB1
 go_wp2_with fail
 with_reducible refine (HSC.out w1 R HR1.out.rdr).mono ?_
 rintro e w2 ⟨rfl,hd⟩
 have HR2:=za (HR1.out.next hd)
 clear hd HSC HR1
 go_wp2_with fail
 with_reducible refine (HCT.out w2 R HR2.out.rdr).mono ?_
 rintro e w3 ⟨rfl,hd⟩
 have HR3:=za (HR2.out.next hd)
 clear hd HCT HR2
 go_wp2_with fail
 with_reducible refine (HUR.out w3 R HR3.out.rdr (HM1.out w3 _ HR3.out) HRM.out).mono ?_
 rintro e w4 ⟨v,rfl,ho,hd⟩
 have HR4:=za (HR3.out.next hd)
 obtain ⟨A,c,rfl⟩:=vk (qq (b1:=0) ho (Nat.zero_le _) (zm.refl (fun _=>False) w4) (fun _ _ f=>f))
 have HU4:=za (VE ho HLB.out)
 clear hd ho HUR HR3
 go_wp2_with fail
 with_reducible refine (HER.out w4 R HR4.out.rdr).mono ?_
 rintro e w5 ⟨rfl,rfl⟩
 clear HER
 by_cases h0:s3.e=0
 case neg =>
  have hz:(s3.e != 0)=true:=by simpa using h0
  have ho:=HO.out
  rw [if_pos h0] at ho
  have HF:Hid (Read8 w out (.returned (.tuple #[.pointer none,.int .i64 s3.e])) w4):=.inl ⟨by rw [ho]; exact h0,by rw [ho],HBW.out w4 _ HR4.out⟩
  clear ho HO h0
  go_wp2
  go_ret2
  exact HF.out
 have hz:(s3.e != 0)=false:=by simpa using h0
 have ho:=HO.out
 rw [if_neg (by simpa using h0)] at ho
 have HO2:=za ho
 have HOU4:=za (HOU.out A c w4 HU4.out (HM1.out w4 _ HR4.out))
 clear ho HO h0 HOU
 go_wp2_with fail
 with_reducible refine HOU4.out.mono ?_
 rintro e w6 hcase
 clear HOU4
 rcases hcase with ⟨hne,rfl,hb⟩ | ⟨h0,B,rfl,hown⟩
 ·
  have ho:=HO2.out
  rw [if_pos hne] at ho
  have hx1:(oe != 0)=true:=by simpa using hne
  have HF:Hid (Read8 w out (.returned (.tuple #[.pointer none,.int .i64 oe])) w6):=.inl ⟨by rw [ho]; exact hne,by rw [ho],z8 (HBW.out w4 _ HR4.out) hb⟩
  clear ho HO2 hne hb
  go_wp2
  go_ret2
  exact HF.out
 subst h0
 have ho:=HO2.out
 rw [if_neg (by simp)] at ho
 have HO3:=za ho
 have HEN6:=za (HEN.out w6 R (HR4.out.rdr.still (zm.of_below hown.below _)))
 have HOW:Hid (jG w w6 B L):=by
  obtain ⟨p,q0,q1,q2,q3⟩:=hown
  have hb:=HBW.out w4 _ HR4.out
  exact ⟨p,q0,Nat.le_trans hb.size q1,fun b hb'=>Nat.le_trans hb.size (q2 b hb'),z8 hb q3⟩
 clear ho HO2 hown HEN HU4
 go_wp2_with fail
 with_reducible refine HEN6.out.mono ?_
 rintro e w7 ⟨rfl,rfl⟩
 clear HEN6
 by_cases h0:en=0
 ·
  have hz2:(en != 0)=false:=by simpa using h0
  have ho:=HO3.out
  rw [if_neg (by simpa using h0)] at ho
  have HF:Hid (Read8 w out (.returned (.tuple #[.pointer (some ⟨B,0,none⟩),.int .i64 0])) w6):=.inr ⟨by rw [ho],B,rfl,by rw [ho]; exact HOW.out⟩
  clear ho HO3 h0
  go_wp2
  go_ret2
  exact HF.out
 ·
  have hz2:(en != 0)=true:=by simpa using h0
  have ho:=HO3.out
  rw [if_pos h0] at ho
  have HF:Hid (Read8 w out (.returned (.tuple #[.pointer none,.int .i64 en])) w6):=.inl ⟨by rw [ho]; exact h0,by rw [ho],HOW.out.below⟩
  clear ho HO3 h0
  go_wp2
  go_ret2
  exact HF.out

end Go.Proofs.YthmomkjingcbiaaGreatDoor
namespace Go.Proofs.YthmomkjingcbiaaGreatDoor
open Go.Maps

structure yw (L M:zB):Prop where
 rl:vi L
 rm:vi M
 iff:∀ n a,(n,a)∈L↔(a,n)∈M

def Vc (L:zB) (a:List UInt8):Bool:=L.any (fun p=>p.2 == a)
def Qw (L:zB) (a:List UInt8):List UInt8:=match L.find? (fun p=>p.2 == a) with | some p=>p.1 | none=>[]

theorem Uj {L:zB} (h:vi L) {n a b:List UInt8} (ha:(n,a)∈L) (hb:(n,b)∈L):a=b:=by
 have h1:=ft h ha
 have h2:=ft h hb
 exact h1.symm.trans h2
theorem xU {L:zB} {n:List UInt8} (h:xj L n=true):(n,xk L n)∈L:=by
 unfold xj at h
 unfold xk
 obtain ⟨p,hp,e⟩:=List.any_eq_true.1 h
 cases hf:L.find? (fun p=>p.1 == n) with
 | none=>exact absurd e (by simpa using List.find?_eq_none.1 hf p hp)
 | some q =>
  have h1:=List.mem_of_find?_eq_some hf
  have h2:=List.find?_some hf
  have:q.1=n:=by simpa using h2
  rw [← this]; exact h1
theorem Uv {L:zB} {n a:List UInt8} (h:(n,a)∈L):xj L n=true:=xE.2 ⟨_,h,rfl⟩
theorem yW {L:zB} {n:List UInt8} (h:xj L n=false):xk L n=[]:=by
 unfold xk
 cases hf:L.find? (fun p=>p.1 == n) with
 | none=>rfl
 | some q =>
  have h1:=List.mem_of_find?_eq_some hf
  have h2:=List.find?_some hf
  have:xj L n=true:=xE.2 ⟨q,h1,by simpa using h2⟩
  rw [h] at this; cases this
theorem qR {L:zB} {a:List UInt8} (h:Vc L a=true):(Qw L a,a)∈L:=by
 unfold Vc at h
 unfold Qw
 obtain ⟨p,hp,e⟩:=List.any_eq_true.1 h
 cases hf:L.find? (fun p=>p.2 == a) with
 | none=>exact absurd e (by simpa using List.find?_eq_none.1 hf p hp)
 | some q =>
  have h1:=List.mem_of_find?_eq_some hf
  have h2:=List.find?_some hf
  have:q.2=a:=by simpa using h2
  rw [← this]; exact h1
theorem fY {L:zB} {n a:List UInt8} (h:(n,a)∈L):Vc L a=true:=List.any_eq_true.2 ⟨_,h,by simp⟩
theorem ownO_none {L:zB} {a:List UInt8} (h:Vc L a=false):Qw L a=[]:=by
 unfold Qw
 cases hf:L.find? (fun p=>p.2 == a) with
 | none=>rfl
 | some q =>
  have h1:=List.mem_of_find?_eq_some hf
  have h2:=List.find?_some hf
  have:Vc L a=true:=List.any_eq_true.2 ⟨q,h1,h2⟩
  rw [h] at this; cases this

theorem vd {L:zB} {k v:List UInt8} {q:List UInt8×List UInt8}:q∈uf L k v↔q=(k,v)∨q∈L∧q.1≠k:=by
 unfold uf
 rw [Xc,yO]
theorem rise_ext {L M:zB} (hl:vi L) (hm:vi M) (h:∀ q,q∈L↔q∈M):L=M:=by
 have hnl:L.Nodup:=hl.imp fun {a b} hb e=>by subst e; rw [zD] at hb; cases hb
 have hnm:M.Nodup:=hm.imp fun {a b} hb e=>by subst e; rw [zD] at hb; cases hb
 have hp:L.Perm M:=(List.perm_ext_iff_of_nodup hnl hnm).2 h
 refine List.Perm.eq_of_pairwise (le:=fun (p q:List UInt8×List UInt8)=>bytesBefore p.1 q.1=true) ?_ hl hm hp
 intro a b _ _ h1 h2
 rw [yq h1] at h2; cases h2

section
variable {L M:zB}
theorem yw.nil:yw [] []:=⟨List.Pairwise.nil,List.Pairwise.nil,by simp⟩
theorem yw.length (h:yw L M):M.length=L.length:=by
 have hnl:L.Nodup:=h.rl.imp fun {a b} hb e=>by subst e; rw [zD] at hb; cases hb
 have hnm:M.Nodup:=h.rm.imp fun {a b} hb e=>by subst e; rw [zD] at hb; cases hb
 have hn2:(L.map fun p=>(p.2,p.1)).Nodup:=by
  unfold List.Nodup
  rw [List.pairwise_map]
  refine hnl.imp fun {a b} hb e=>hb ?_
  injection e with e1 e2
  exact Prod.ext e2 e1
 have:(L.map fun p=>(p.2,p.1)).Perm M:=(List.perm_ext_iff_of_nodup hn2 hnm).2 fun q=>by
  rw [List.mem_map]
  constructor
  ·
   rintro ⟨p,hp,rfl⟩
   exact (h.iff p.1 p.2).1 hp
  ·
   intro hq
   exact ⟨(q.2,q.1),(h.iff q.2 q.1).2 hq,rfl⟩
 have:=this.length_eq
 rw [List.length_map] at this
 exact this.symm
theorem yw.has (h:yw L M) (a:List UInt8):xj M a=Vc L a:=by
 cases hh:Vc L a
 ·
  cases hm:xj M a
  ·
   rfl
  ·
   have:=fY ((h.iff _ _).2 (xU hm))
   rw [hh] at this; cases this
 ·
  exact Uv ((h.iff _ _).1 (qR hh))
theorem yw.get (h:yw L M) (a:List UInt8):xk M a=Qw L a:=by
 cases hh:Vc L a
 ·
  rw [ownO_none hh,yW (by rw [h.has,hh])]
 ·
  exact ft h.rm ((h.iff _ _).1 (qR hh))
theorem yw.one (h:yw L M) {n k a:List UInt8} (h1:(n,a)∈L) (h2:(k,a)∈L):n=k:=Uj h.rm ((h.iff _ _).1 h1) ((h.iff _ _).1 h2)
theorem yw.own (h:yw L M) {n a:List UInt8} (h1:(n,a)∈L):Qw L a=n:=h.one (qR (fY h1)) h1
theorem yw.del (h:yw L M) {n:List UInt8} (hn:xj L n=true):yw (vD L n) (vD M (xk L n)):=by
 have hm:=xU hn
 refine ⟨qM h.rl n,qM h.rm _,fun k b=>?_⟩
 rw [yO,yO]
 constructor
 ·
  rintro ⟨h1,h2⟩
  refine ⟨(h.iff _ _).1 h1,fun e=>h2 ?_⟩
  have e':b=xk L n:=e
  subst e'
  exact h.one h1 hm
 ·
  rintro ⟨h1,h2⟩
  have h1':=(h.iff _ _).2 h1
  refine ⟨h1',fun e=>h2 ?_⟩
  have e':k=n:=e
  subst e'
  exact Uj h.rl h1' hm
theorem yw.put (h:yw L M) {n a:List UInt8} (hn:xj L n=false) (ha:Vc L a=false):yw (uf L n a) (uf M a n):=by
 refine ⟨uW h.rl n a,uW h.rm a n,fun k b=>?_⟩
 rw [vd,vd]
 constructor
 ·
  rintro (e | ⟨h1,h2⟩)
  ·
   injection e with e1 e2; subst e1; subst e2; exact .inl rfl
  ·
   refine .inr ⟨(h.iff _ _).1 h1,fun e=>?_⟩
   have e':b=a:=e
   subst e'
   have:=fY h1
   rw [ha] at this; cases this
 ·
  rintro (e | ⟨h1,h2⟩)
  ·
   injection e with e1 e2; subst e1; subst e2; exact .inl rfl
  ·
   have h1':=(h.iff _ _).2 h1
   refine .inr ⟨h1',fun e=>?_⟩
   have e':k=n:=e
   subst e'
   have:=Uv h1'
   rw [hn] at this; cases this
end

theorem UN (L:zB) (n:List UInt8):xj (vD L n) n=false:=by
 cases h:xj (vD L n) n
 ·
  rfl
 ·
  obtain ⟨p,hp,e⟩:=xE.1 h
  exact absurd e (yO.1 hp).2
theorem Xq {L:zB} {n k:List UInt8} (h:k≠n):xj (vD L n) k=xj L k:=by
 cases hh:xj L k
 ·
  cases hd:xj (vD L n) k
  ·
   rfl
  ·
   obtain ⟨p,hp,e⟩:=xE.1 hd
   have:xj L k=true:=xE.2 ⟨p,(yO.1 hp).1,e⟩
   rw [hh] at this; cases this
 ·
  obtain ⟨p,hp,e⟩:=xE.1 hh
  exact xE.2 ⟨p,yO.2 ⟨hp,fun e'=>h (e.symm.trans e')⟩,e⟩
theorem put_del {L:zB} (h:vi L) (n a:List UInt8):uf (vD L n) n a=uf L n a:=by
 refine rise_ext (uW (qM h n) n a) (uW h n a) fun q=>?_
 rw [vd,vd,yO]
 constructor
 ·
  rintro (e | ⟨⟨h1,_⟩,h2⟩)
  ·
   exact .inl e
  ·
   exact .inr ⟨h1,h2⟩
 ·
  rintro (e | ⟨h1,h2⟩)
  ·
   exact .inl e
  ·
   exact .inr ⟨⟨h1,h2⟩,h2⟩
theorem get_put {L:zB} (h:vi L) (n a:List UInt8):xk (uf L n a) n=a:=ft (uW h n a) (vd.2 (.inl rfl))
end Go.Proofs.YthmomkjingcbiaaGreatDoor
namespace Go.Proofs.YthmomkjingcbiaaGreatDoor
open Go.RowKit Go.Maps

theorem Jb (x:UInt8):jW (jW x)=jW x:=by
 cases h:inR 65 90 x with
 | false=>rw [jQ h,jQ h]
 | true =>
  obtain ⟨e,h1,h2⟩:=Ja h
  refine jQ ?_
  unfold inR
  have:¬ (jW x).toNat≤90:=by omega
  rw [decide_eq_false this,Bool.and_false]
theorem ZX (l:List UInt8):zO (zO l)=zO l:=by
 unfold zO
 rw [List.map_map]
 exact List.map_congr_left fun x _=>Jb x
theorem mail5_fold {l m:List UInt8} (h:zO l=zO m):yP l=yP m:=by
 unfold yP ZE
 have hl:l.length=m.length:=by rw [← vZ l,h,vZ]
 rw [h,hl]
theorem ZT (l:List UInt8):yP (zO l)=yP l:=mail5_fold (ZX l)
theorem Xe {l:List UInt8} (h:yP l=true):l.length≤20:=by
 unfold yP at h
 simp only [Bool.and_eq_true,decide_eq_true_eq] at h
 exact h.1.1.1
theorem QV:yP []=false:=by decide
theorem name5_len {n:List UInt8} (h:zf n=true):n.length≤12:=by
 unfold zf X0 at h
 simp only [Bool.and_eq_true,decide_eq_true_eq] at h
 exact h.1.1.2.1

def May9 (x:List UInt8×List UInt8):Prop:=zf x.1=true∧yP x.2=true∧zO x.2=x.2
theorem May9.of {n m:List UInt8} (hn:zf n=true) (hm:yP m=true):May9 (n,zO m):=⟨hn,by rw [ZT]; exact hm,ZX m⟩

structure vA (w:World) (p:Option Nat) (L:zB):Prop where
 nil:p=none→L=[]
 map:∀ b,p=some b→fB w b L
theorem vA.turns {w w':World} {p:Option Nat} {L:zB} {S:Nat→Prop} (h:vA w p L) (ht:zm S w w') (hp:∀ b,p=some b→¬ S b):vA w' p L :=
 ⟨h.nil,fun b hb=>(h.map b hb).kept (ht.block b (h.map b hb).lt (hp b hb))⟩

section
variable {w:World} {p:Option Nat} {L:zB}
theorem look9 (h:vA w p L) (s:ByteArray) (hs:s.size≤maxLen) :
  (Instr.lookup 76 (.map p) (.string s) true).run Tryz.prog w=.ok (.tuple #[.string (tx7 (xk L s.data.toList)),.bool (xj L s.data.toList)]) w:=by
 cases p with
 | none =>
  have hL:=h.nil rfl
  subst hL
  have:=Maps.look_nil (P:=Tryz.prog) (w:=w) (t:=76) true jp Tryz.underlying76 (JF w) (key7 s hs)
  exact this
 | some b =>
  obtain ⟨v,ps,hrun,hv⟩:=(h.map b rfl).look_ok jp Tryz.underlying76 (JF w) (plainElem_string (H:=Unit) Tryz.underlying9 (s:=⟨#[]⟩) (by decide)) (key7 s hs)
  obtain ⟨c,rfl,hc,_⟩:=plainElem_string_inv Tryz.underlying9 hv
  rw [hrun,datE_has]
  have e:(Y1 L).atKey (.string s.data.toList) (.lit (.string []))=.lit (.string (xk L s.data.toList)):=FI L _
  have hc':(Y1 L).atKey (.string s.data.toList) (.lit (.string []))=.lit (.string c.data.toList):=congrArg Prod.fst hc
  rw [e] at hc'
  have:xk L s.data.toList=c.data.toList:=by simpa using hc'
  rw [this,ul]
theorem drop9 (h:vA w p L) (s:ByteArray) (hs:s.size≤maxLen) (ty:TypeId) :
  ∃ w',(Builtin.delete_ #[76,9] ty #[.map p,.string s]).run Tryz.prog w=.ok (.tuple #[]) w'∧vA w' p (vD L s.data.toList)∧zm (fun i=>p=some i) w w':=by
 cases p with
 | none =>
  have hL:=h.nil rfl
  subst hL
  exact ⟨w,Maps.drop_nil jp Tryz.underlying76 (key7 s hs) ty,⟨fun _=>rfl,(fun _ h=>nomatch h)⟩,zm.refl _ w⟩
 | some b =>
  obtain ⟨w',hrun,hown,ht⟩:=(h.map b rfl).drop jp Tryz.underlying76 (key7 s hs) ty
  rw [datE_del] at hown
  exact ⟨w',hrun,⟨(fun h=>nomatch h),fun b' hb'=>by cases hb'; exact fB.of hown⟩,(zm.refl _ w).grown ht.grown (fun k hk _=>hk.symm ▸ rfl)⟩
theorem nilmap9 (w:World) (p:Option Nat):(binOp .eql 76 (.map p) (.map none)).run Tryz.prog w=.ok (.bool p.isNone) w :=
 run_eql_map_nil_sl w 76 _ _ p Tryz.underlying76
end

def JC (W:World) (b:Nat) (L':zB) (st val:Value):Prop :=
 ∃ o,W.heap[b]? = some o∧∀ W2:World,W2.heap[b]? = some o→∃ W3,(Instr.entryStore 76 (.map (some b)) st val).run Tryz.prog W2=.ok () W3∧fB W3 b L'∧W2.mapTurned W3 b
theorem half9 {W:World} {b:Nat} {L:zB} (h:fB W b L) (hf:L.length≤1000) (k v:ByteArray) (hk:k.size≤maxLen) (hv:v.size≤maxLen) :
  ∃ (v0:Value) (st:Nat) (W1:World),(Instr.mapEntry 76 (.map (some b)) (.string k)).run Tryz.prog W=.ok (.tuple #[v0,.int .i64 (st:Int)]) W1∧JC W1 b (uf L k.data.toList v.data.toList) (.int .i64 (st:Int)) (.string v)∧W.mapTurned W1 b:=by
 obtain ⟨w',hrun,hown,_⟩:=h.store jp Tryz.underlying76 (Nat.lt_of_le_of_lt hf (by decide)) (key7 k hk) (plainElem_string (H:=Unit) Tryz.underlying9 hv)
 rw [UW] at hown
 have hM:=fB.of hown
 obtain ⟨es,clock,hb,F,_,_⟩:=h
 obtain ⟨v0,st,es1,clock1,h1,_,h3⟩:=WideElems.entry_then_store (t:=76) (WideMaps.string_law Tryz.underlying9) Tryz.underlying76 (z:=.string ⟨#[]⟩) (fun u=>JF u) hb F (key7 k hk)
 refine ⟨v0,st,_,h1,⟨_,ChangeMaps.heap_setBlock_same hb _,fun W2 hW2=>?_⟩,⟨es,clock,es1,clock1,hb,rfl⟩⟩
 obtain ⟨es',clock',r1,r2⟩:=h3 W2 (.string v) hW2
 rw [hrun] at r2
 injection r2 with _ r2
 refine ⟨_,r1,hM.kept ?_,⟨es1,clock1,es',clock',hW2,rfl⟩⟩
 rw [ChangeMaps.heap_setBlock_same hW2,r2,ChangeMaps.heap_setBlock_same hb]
theorem JC.kept {W W':World} {b:Nat} {L':zB} {st val:Value} (h:JC W b L' st val) (hb:W'.heap[b]? = W.heap[b]?):JC W' b L' st val:=by
 obtain ⟨o,h1,h2⟩:=h
 exact ⟨o,hb.trans h1,h2⟩

structure vE (w:World) (B:Nat) (p q:Option Nat) (L M:zB):Prop where
 blk:w.heap[B]? = some (.cells #[.map p,.map q] 164 (0,0))
 mapp:vA w p L
 mapq:vA w q M
 both:p.isSome=q.isSome
 apt:∀ b c,p=some b→q=some c→b≠c
 mir:yw L M
 few:L.length≤100
 all:∀ x∈L,May9 x

section
variable {w w':World} {B:Nat} {p q:Option Nat} {L M:zB}
theorem vE.lt (h:vE w B p q L M):B<w.heap.size:=(Array.getElem?_eq_some_iff.1 h.blk).1
theorem vE.plt (h:vE w B p q L M):∀ b,p=some b→b<w.heap.size:=fun b hb=>(h.mapp.map b hb).lt
theorem vE.qlt (h:vE w B p q L M):∀ b,q=some b→b<w.heap.size:=fun b hb=>(h.mapq.map b hb).lt
theorem vE.cell0 (h:vE w B p q L M):w.cell? ⟨B,0,none⟩=some (.map p):=by simp [World.cell?,h.blk]
theorem vE.cell1 (h:vE w B p q L M):w.cell? ⟨B,1,none⟩=some (.map q):=by simp [World.cell?,h.blk]
theorem vE.frozen0 (h:vE w B p q L M):w.frozen? ⟨B,0,none⟩=false:=by simp [World.frozen?,h.blk]
theorem vE.frozen1 (h:vE w B p q L M):w.frozen? ⟨B,1,none⟩=false:=by simp [World.frozen?,h.blk]
theorem uX {b:Nat} {L:zB} {c:Array Value} {T:TypeId} {fr:Nat×Nat} (hm:fB w b L) (hB:w.heap[B]? = some (.cells c T fr)):b≠B:=fun e=>by
 obtain ⟨es,clock,h1,_⟩:=hm
 subst e
 rw [hB] at h1
 cases h1
theorem vE.pne (h:vE w B p q L M):∀ b,p=some b→b≠B:=fun b hb=>uX (h.mapp.map b hb) h.blk
theorem vE.qne (h:vE w B p q L M):∀ b,q=some b→b≠B:=fun b hb=>uX (h.mapq.map b hb) h.blk
theorem vE.turns {S:Nat→Prop} (h:vE w B p q L M) (ht:zm S w w') (hB:¬ S B) (hp:∀ b,p=some b→¬ S b) (hq:∀ b,q=some b→¬ S b):vE w' B p q L M :=
 ⟨(ht.block B h.lt hB).trans h.blk,h.mapp.turns ht hp,h.mapq.turns ht hq,h.both,h.apt,h.mir,h.few,h.all⟩
theorem vE.later (h:vE w B p q L M) (hb:Below w.heap.size w w'):vE w' B p q L M:=h.turns (zm.of_below hb (fun _=>False)) (fun f=>f) (fun _ _ f=>f) (fun _ _ f=>f)
theorem vE.rise (h:vE w B p q L M):vi L:=h.mir.rl
end

def Jy (B:Nat) (p q:Option Nat) (w w':World):Prop:=zm (fun i=>i=B∨p=some i∨q=some i) w w'
def ue (w:World) (B:Nat) (p q:Option Nat) (L':zB) (w':World):Prop :=
 ∃ p' q' M',vE w' B p' q' L' M'∧(∀ b,p'=some b→p=some b∨w.heap.size≤b)∧(∀ b,q'=some b→q=some b∨w.heap.size≤b)∧Jy B p q w w'
theorem ue.still {w w':World} {B:Nat} {p q:Option Nat} {L M:zB} (h:vE w B p q L M) (hb:Below w.heap.size w w'):ue w B p q L w' :=
 ⟨p,q,M,h.later hb,fun _ e=>.inl e,fun _ e=>.inl e,zm.of_below hb _⟩
theorem ue.ahead {w w1 w':World} {B:Nat} {p q:Option Nat} {L':zB} (hb:Below w.heap.size w w1) (h:ue w1 B p q L' w'):ue w B p q L' w':=by
 obtain ⟨p',q',M',hd,hp,hq,ht⟩:=h
 exact ⟨p',q',M',hd,fun b e=>(hp b e).imp id (fun h=>Nat.le_trans hb.size h),fun b e=>(hq b e).imp id (fun h=>Nat.le_trans hb.size h),(zm.of_below hb _).next ht (fun i _ h=>h)⟩

set_option maxRecDepth 100000 in
theorem new9_calls (w:World):Calls Tryz.prog 63 #[] w fun e w'=>e=.returned (.pointer (some ⟨w.heap.size,0,none⟩))∧w'=w.alloc (.cells #[.map none,.map none] 164):=by
 go_enter Tryz.func63,Tryz.ntmps63
 go_wp2
 go_ret
 exact ⟨rfl,rfl⟩
theorem idx9_new (w:World):vE (w.alloc (.cells #[.map none,.map none] 164)) w.heap.size none none [] [] :=
 ⟨(MapKept.heap_alloc w _).1,⟨fun _=>rfl,(fun _ h=>nomatch h)⟩,⟨fun _=>rfl,(fun _ h=>nomatch h)⟩,rfl,(fun _ _ h=>nomatch h),yw.nil,by simp,(fun _ h=>nomatch h)⟩

set_option maxRecDepth 100000 in
theorem of9_calls (B:Nat) (p q:Option Nat) (L M:zB) (s:ByteArray) (w:World) (h:vE w B p q L M) (hs:s.size≤maxLen) :
  Calls Tryz.prog 131 #[.pointer (some ⟨B,0,none⟩),.string s] w fun e w'=>e=.returned (.tuple #[.string (tx7 (xk L s.data.toList)),.bool (xj L s.data.toList)])∧w'=w:=by
 have hc:=h.cell0
 have hl:=look9 h.mapp s hs
 generalize xj L s.data.toList=r at *
 generalize tx7 (xk L s.data.toList)=g at *
 clear h hs
 go_enter Tryz.func131,Tryz.ntmps131
 go_wp2
 go_ret2
 exact ⟨rfl,rfl⟩

theorem fD.move9 {cs:List Nat} {St St':Nat→World→Prop} {L:Nat→Bool} {W W':World} (h:fD cs St L W) (q i:Nat) (hq:q<cs.length) (hi:cs.getD q 0=i) (hL:L i=false) (hp:q=0∨L (cs.getD (q - 1) 0)=true)
  (hnd:(List.range cs.length).all (fun r=>r == q || cs.getD r 0 != i)=true) (hS:St' (q+1) W'):fD cs St' (vF L i) W':=by
 obtain ⟨m,hm,hs,hr⟩:=h
 have h1:¬ q<m:=by have:=hr q hq; rw [hi,hL] at this; simpa using this.symm
 have h2:m=q:=by
  rcases hp with rfl | hp
  ·
   omega
  ·
   have:=hr (q - 1) (by omega)
   rw [hp] at this
   have:q - 1<m:=by simpa using this.symm
   omega
 subst h2
 have hX:fD cs (fun k V=>k=m+1→St' k V) L W':=⟨m,hm,fun e=>absurd e (by omega),hr⟩
 obtain ⟨k,hk,hs',hr'⟩:=hX.next m i hq hi hL hp hnd (fun _=>hS)
 have hkm:k=m+1:=by
  have e1:=hr' m hq
  rw [hi,show vF L i i=true from if_pos rfl] at e1
  have e1':m<k:=by simpa using e1.symm
  by_cases hlt:m+1<cs.length
  ·
   have h3:=List.all_eq_true.1 hnd (m+1) (List.mem_range.2 hlt)
   have e2:=hr' (m+1) hlt
   have hne:cs.getD (m+1) 0≠i:=by
    have e1:((m+1) == m)=false:=by simp
    rw [e1,Bool.false_or,bne_iff_ne] at h3
    exact h3
   rw [show vF L i (cs.getD (m+1) 0)=L (cs.getD (m+1) 0) from if_neg hne,hr (m+1) hlt] at e2
   have:¬ m+1<k:=by
    have e3:decide (m+1<m)=false:=by simp
    rw [e3] at e2
    simpa using e2.symm
   omega
  ·
   omega
 subst hkm
 exact ⟨m+1,hk,hs' rfl,hr'⟩
theorem fD.done9 {cs:List Nat} {St:Nat→World→Prop} {L:Nat→Bool} {W:World} (h:fD cs St L W) (hall:∀ r,r<cs.length→L (cs.getD r 0)=true):St cs.length W:=by
 obtain ⟨m,hm,hs,hr⟩:=h
 by_cases e:m=cs.length
 ·
  rw [← e]; exact hs
 ·
  have h1:=hr m (by omega)
  rw [hall m (by omega)] at h1
  simp at h1

set_option maxRecDepth 100000 in
theorem qU (B:Nat) (p q:Option Nat) (L M:zB) (s:ByteArray) (w:World) (h:vE w B p q L M) (hs:s.size≤maxLen) :
  Calls Tryz.prog 120 #[.pointer (some ⟨B,0,none⟩),.string s] w fun e w'=>e=.returned (.bool (xj L s.data.toList))∧(∃ M',vE w' B p q (vD L s.data.toList) M')∧Jy B p q w w':=by
 have hl:=look9 h.mapp s hs
 have c0:=h.cell0
 cases hh:xj L s.data.toList with
 | false =>
  rw [hh] at hl
  have HF:Hid ((∃ M',vE w B p q (vD L s.data.toList) M')∧Jy B p q w w):=⟨⟨M,by rw [uw hh]; exact h⟩,zm.refl _ w⟩
  clear h
  generalize tx7 (xk L s.data.toList)=g at *
  go_enter Tryz.func120,Tryz.ntmps120
  go_wp2
  go_ret
  exact ⟨rfl,HF.out⟩
 | true =>
  rw [hh] at hl
  have hmem:=xU hh
  have hmay:=h.all _ hmem
  have hgs:(tx7 (xk L s.data.toList)).size≤maxLen:=by
   show (xk L s.data.toList).toArray.size≤_
   rw [List.size_toArray]; exact Nat.le_trans (Xe hmay.2.1) (by decide)
  obtain ⟨w1,r1,m1,t1⟩:=drop9 h.mapp s hs 0
  have hB1:w1.heap[B]? = _:=(t1.block B h.lt (fun e=>h.pne _ e rfl)).trans h.blk
  have c1:w1.cell? ⟨B,1,none⟩=some (.map q):=by simp [World.cell?,hB1]
  have q1:vA w1 q M:=h.mapq.turns t1 (fun b hb e=>h.apt b b e hb rfl)
  obtain ⟨w2,r2,m2,t2⟩:=drop9 q1 (tx7 (xk L s.data.toList)) hgs 0
  have ht:Jy B p q w w2:=(t1.mono (fun i _ e=>.inr (.inl e))).next t2 (fun i _ e=>.inr (.inr e))
  have HF:Hid ((∃ M',vE w2 B p q (vD L s.data.toList) M')∧Jy B p q w w2):=by
   rw [yC] at m2
   refine ⟨⟨_,⟨(t2.block B (Nat.lt_of_lt_of_le h.lt t1.size) (fun e=>h.qne _ e rfl)).trans hB1,m1.turns t2 (fun b hb e=>h.apt b b hb e rfl),m2,h.both,h.apt,h.mir.del hh,?_,fun x hx=>h.all x (yO.1 hx).1⟩⟩,ht⟩
   exact Nat.le_trans (List.length_filter_le _ _) h.few
  clear h hB1 q1 m1 m2 t1 t2 ht hmem hmay hgs
  generalize tx7 (xk L s.data.toList)=g at *
  go_enter Tryz.func120,Tryz.ntmps120
  go_wp2
  go_ret
  exact ⟨rfl,HF.out⟩

def YPut9 (B b c:Nat) (n a:ByteArray):Nat→Value→Prop
 | 2,v=>v=.pointer (some ⟨B,0,none⟩)
 | 3,v=>v=.map (some b)
 | 4,v=>v=.string n
 | 7,v=>v=.pointer (some ⟨B,1,none⟩)
 | 8,v=>v=.map (some c)
 | 9,v=>v=.string a
 | 10,v=>v=.string a
 | 11,v=>v=.string n
 | _,v=>v=.pointer (some ⟨B,0,none⟩)
def StPut9 (b c:Nat) (L M L' M':zB) (n a:ByteArray) (x12 x15:Value):Nat→World→Prop
 | 0,W=>fB W b L∧fB W c M
 | 1,W=>(∃ (v0:Value) (st:Nat),x12=.tuple #[v0,.int .i64 (st:Int)]∧JC W b L' (.int .i64 (st:Int)) (.string a))∧fB W c M
 | 2,W=>fB W b L'∧fB W c M
 | 3,W=>fB W b L'∧∃ (v0:Value) (st:Nat),x15=.tuple #[v0,.int .i64 (st:Int)]∧JC W c M' (.int .i64 (st:Int)) (.string n)
 | _,W=>fB W b L'∧fB W c M'
structure Yj (w1:World) (B b c:Nat) (L M L' M':zB) (n a:ByteArray) (D:Nat→Bool) (x:Nat→Value) (W:World):Prop where
 y:∀ j,j<12→D j=true→YPut9 B b c n a j (x j)
 e12:D 12=true→∃ (v0:Value) (st:Nat),x 12=.tuple #[v0,.int .i64 (st:Int)]
 e15:D 15=true→∃ (v0:Value) (st:Nat),x 15=.tuple #[v0,.int .i64 (st:Int)]
 e13:D 13=true→D 12=true∧∃ v0,x 12=.tuple #[v0,x 13]
 e16:D 16=true→D 15=true∧∃ v0,x 15=.tuple #[v0,x 16]
 t:zm (fun i=>i=b∨i=c) w1 W
 s:fD [12,14,15,17] (StPut9 b c L M L' M' n a (x 12) (x 15)) D W

section
variable {w1:World} {B b c:Nat} {L M L' M':zB} {n a:ByteArray} {D:Nat→Bool} {x:Nat→Value} {W W':World}
theorem Yj.start (x:Nat→Value) (hb:fB w1 b L) (hc:fB w1 c M):Yj w1 B b c L M L' M' n a (fun _=>false) x w1.drew :=
 ⟨(fun _ _ h=>nomatch h),(fun h=>nomatch h),(fun h=>nomatch h),(fun h=>nomatch h),(fun h=>nomatch h),(zm.refl _ w1).drew,fD.start ⟨hb,hc⟩⟩
theorem Yj.quiet (h:Yj w1 B b c L M L' M' n a D x W) (i:Nat) (v:Value) (hi:[12,14,15,17].contains i=false) (hy:i<12→YPut9 B b c n a i v)
  (h13:i=13→D 12=true∧∃ v0,x 12=.tuple #[v0,v]) (h16:i=16→D 15=true∧∃ v0,x 15=.tuple #[v0,v]):Yj w1 B b c L M L' M' n a (vF D i) (upd x i v) W:=by
 have n12:12≠i:=fun e=>by subst e; simp at hi
 have n15:15≠i:=fun e=>by subst e; simp at hi
 have u12:upd x i v 12=x 12:=if_neg n12
 have u15:upd x i v 15=x 15:=if_neg n15
 have d12:vF D i 12=D 12:=if_neg n12
 have d15:vF D i 15=D 15:=if_neg n15
 refine ⟨fun j hj hd=>?_,fun hd=>?_,fun hd=>?_,fun hd=>?_,fun hd=>?_,h.t,?_⟩
 ·
  by_cases e:j=i
  ·
   subst e; rw [show upd x j v j=v from if_pos rfl]; exact hy hj
  ·
   rw [show upd x i v j=x j from if_neg e]; rw [show vF D i j=D j from if_neg e] at hd; exact h.y j hj hd
 ·
  rw [u12]; rw [d12] at hd; exact h.e12 hd
 ·
  rw [u15]; rw [d15] at hd; exact h.e15 hd
 ·
  rw [u12,d12]
  by_cases e:13=i
  ·
   subst e; rw [show upd x 13 v 13=v from if_pos rfl]; exact h13 rfl
  ·
   rw [show upd x i v 13=x 13 from if_neg e]; rw [show vF D i 13=D 13 from if_neg e] at hd; exact h.e13 hd
 ·
  rw [u15,d15]
  by_cases e:16=i
  ·
   subst e; rw [show upd x 16 v 16=v from if_pos rfl]; exact h16 rfl
  ·
   rw [show upd x i v 16=x 16 from if_neg e]; rw [show vF D i 16=D 16 from if_neg e] at hd; exact h.e16 hd
 ·
  rw [u12,u15]; exact h.s.same i hi (fun _ h=>h)
theorem U8 {W W':World} {b i:Nat} (ht:W.mapTurned W' b) (hne:i≠b):W'.heap[i]? = W.heap[i]? := jc ht (fun e=>hne e.symm)
theorem Yj.turn (h:Yj w1 B b c L M L' M' n a D x W) {k:Nat} (hk:k=b∨k=c) (ht:W.mapTurned W' k):zm (fun i=>i=b∨i=c) w1 W' :=
 h.t.grown ht.grown (fun j hj _=>by cases hj; exact hk)
theorem Yj.y2 (h:Yj w1 B b c L M L' M' n a D x W) (i:Nat) (v:Value) (hi:¬ i<12):∀ j,j<12→vF D i j=true→YPut9 B b c n a j (upd x i v j):=fun j hj hd=>by
 have e:j≠i:=fun e=>hi (e ▸ hj)
 rw [show upd x i v j=x j from if_neg e]; rw [show vF D i j=D j from if_neg e] at hd; exact h.y j hj hd
theorem Yj.at12 (h:Yj w1 B b c L M L' M' n a D x W) (hD:D 12=false) {v0:Value} {st:Nat} (hH:JC W' b L' (.int .i64 (st:Int)) (.string a)) (ht:W.mapTurned W' b) (hbc:b≠c) :
  Yj w1 B b c L M L' M' n a (vF D 12) (upd x 12 (.tuple #[v0,.int .i64 (st:Int)])) W':=by
 have u12:upd x 12 (.tuple #[v0,.int .i64 (st:Int)]) 12=.tuple #[v0,.int .i64 (st:Int)]:=if_pos rfl
 have hs:=h.s.at_ 0 (by decide) hD (.inl rfl)
 refine ⟨h.y2 12 _ (by decide),fun _=>⟨v0,st,u12⟩,fun hd=>h.e15 hd,fun hd=>?_,fun hd=>h.e16 hd,h.turn (.inl rfl) ht,?_⟩
 ·
  have:=(h.e13 hd).1
  rw [hD] at this; cases this
 ·
  refine h.s.move9 0 12 (by decide) rfl hD (.inl rfl) (by decide) ⟨⟨v0,st,u12,hH⟩,hs.2.kept (U8 ht hbc.symm)⟩
theorem Yj.at14 (h:Yj w1 B b c L M L' M' n a D x W) (hD:D 14=false) (h12:D 12=true) {v:Value} (hm:fB W' b L') (ht:W.mapTurned W' b) (hbc:b≠c) :
  Yj w1 B b c L M L' M' n a (vF D 14) (upd x 14 v) W':=by
 have hs:=h.s.at_ 1 (by decide) hD (.inr h12)
 refine ⟨h.y2 14 _ (by decide),fun hd=>h.e12 hd,fun hd=>h.e15 hd,fun hd=>h.e13 hd,fun hd=>h.e16 hd,h.turn (.inl rfl) ht,?_⟩
 exact h.s.move9 1 14 (by decide) rfl hD (.inr h12) (by decide) ⟨hm,hs.2.kept (U8 ht hbc.symm)⟩
theorem Yj.at15 (h:Yj w1 B b c L M L' M' n a D x W) (hD:D 15=false) (h14:D 14=true) {v0:Value} {st:Nat} (hH:JC W' c M' (.int .i64 (st:Int)) (.string n)) (ht:W.mapTurned W' c) (hbc:b≠c) :
  Yj w1 B b c L M L' M' n a (vF D 15) (upd x 15 (.tuple #[v0,.int .i64 (st:Int)])) W':=by
 have u15:upd x 15 (.tuple #[v0,.int .i64 (st:Int)]) 15=.tuple #[v0,.int .i64 (st:Int)]:=if_pos rfl
 have hs:=h.s.at_ 2 (by decide) hD (.inr h14)
 refine ⟨h.y2 15 _ (by decide),fun hd=>h.e12 hd,fun _=>⟨v0,st,u15⟩,fun hd=>h.e13 hd,fun hd=>?_,h.turn (.inr rfl) ht,?_⟩
 ·
  have:=(h.e16 hd).1
  rw [hD] at this; cases this
 ·
  exact h.s.move9 2 15 (by decide) rfl hD (.inr h14) (by decide) ⟨hs.1.kept (U8 ht hbc),⟨v0,st,u15,hH⟩⟩
theorem Yj.at17 (h:Yj w1 B b c L M L' M' n a D x W) (hD:D 17=false) (h15:D 15=true) {v:Value} (hm:fB W' c M') (ht:W.mapTurned W' c) (hbc:b≠c) :
  Yj w1 B b c L M L' M' n a (vF D 17) (upd x 17 v) W':=by
 have hs:=h.s.at_ 3 (by decide) hD (.inr h15)
 refine ⟨h.y2 17 _ (by decide),fun hd=>h.e12 hd,fun hd=>h.e15 hd,fun hd=>h.e13 hd,fun hd=>h.e16 hd,h.turn (.inr rfl) ht,?_⟩
 exact h.s.move9 3 17 (by decide) rfl hD (.inr h15) (by decide) ⟨hs.1.kept (U8 ht hbc),hm⟩
end

theorem blk_set0 {W:World} {B:Nat} {u v:Value} {T:TypeId} (v':Value) (h:W.heap[B]? = some (.cells #[u,v] T (0,0))):(W.setCell ⟨B,0,none⟩ v').heap[B]? = some (.cells #[v',v] T (0,0)):=by
 obtain ⟨hlt,hk⟩:=Array.getElem?_eq_some_iff.1 h
 show (W.heap.modify B _)[B]? = _
 rw [Array.getElem?_eq_getElem (by rw [Array.size_modify]; exact hlt),Array.getElem_modify_self,hk]
 rfl
theorem blk_set1 {W:World} {B:Nat} {u v:Value} {T:TypeId} (v':Value) (h:W.heap[B]? = some (.cells #[u,v] T (0,0))):(W.setCell ⟨B,1,none⟩ v').heap[B]? = some (.cells #[u,v'] T (0,0)):=by
 obtain ⟨hlt,hk⟩:=Array.getElem?_eq_some_iff.1 h
 show (W.heap.modify B _)[B]? = _
 rw [Array.getElem?_eq_getElem (by rw [Array.size_modify]; exact hlt),Array.getElem_modify_self,hk]
 rfl

set_option maxRecDepth 100000 in
theorem VA (B:Nat) (p q:Option Nat) (L M:zB) (n a:ByteArray) (w:World) (h:vE w B p q L M) (hm:May9 (n.data.toList,a.data.toList)) (hfree:Vc (vD L n.data.toList) a.data.toList=false) (hf:(uf L n.data.toList a.data.toList).length≤100) :
  Calls Tryz.prog 222 #[.pointer (some ⟨B,0,none⟩),.string n,.string a] w fun e w'=>e=.returned (.tuple #[])∧ue w B p q (uf L n.data.toList a.data.toList) w':=by
 have hn':n.size≤maxLen:=by have:=name5_len hm.1; rw [zq] at this; exact Nat.le_trans this (by decide)
 have ha':a.size≤maxLen:=by have:=Xe hm.2.1; rw [zq] at this; exact Nat.le_trans this (by decide)
 have HD:=za (qU B p q L M n w h hn')
 have hall:∀ y∈uf L n.data.toList a.data.toList,May9 y:=fun y hy=>by
  rcases vd.1 hy with rfl | ⟨hy,_⟩
  ·
   exact hm
  ·
   exact h.all y hy
 have hpd:=put_del h.rise n.data.toList a.data.toList
 have HPD:Hid (uf (vD L n.data.toList) n.data.toList a.data.toList=uf L n.data.toList a.data.toList):=hpd
 have HF:Hid ((vD L n.data.toList).length≤1000):=Nat.le_trans (List.length_filter_le _ _) (Nat.le_trans h.few (by decide))
 have HALL:=za hall
 have HLN:=za hf
 have hlt0:=h.lt
 have hlp:=h.plt
 have hlq:=h.qlt
 clear h hm hall hpd hf
 go_enter Tryz.func222,Tryz.ntmps222
 go_wp2_with fail
 with_reducible refine HD.out.mono ?_
 rintro e w1 ⟨rfl,⟨M1,hi⟩,ht⟩
 have HI:=za hi
 have HT:=za ht
 have hfr:Vc (vD L n.data.toList) a.data.toList=false:=hfree
 have hmir:=hi.mir.put (UN L n.data.toList) hfr
 rw [HPD.out] at hmir
 have HMIR:=za hmir
 have HG:Hid (M1.length≤1000):=by show _≤_; rw [hi.mir.length]; exact HF.out
 have hq:=nilmap9 w1 p
 have hc0:=hi.cell0
 clear ht hmir hfr HD
 cases p with
 | none =>
  have hqn:q=none:=by
   have:=hi.both
   cases q with
   | none=>rfl
   | some c=>cases this
  subst hqn
  have hL1:=hi.mapp.nil rfl
  have hM1:=hi.mapq.nil rfl
  have f0:=hi.frozen0
  have f1:=hi.frozen1
  have hc1:=hi.cell1
  have hblk:=hi.blk
  have hblt:=hi.lt
  have hmm:=@run_makeMap Tryz.prog
  have hs0:((w1.setCell ⟨B,0,none⟩ (.map (some w1.heap.size))).setCell ⟨B,1,none⟩ (.map (some (w1.heap.size+1)))).heap.size=w1.heap.size:=by simp [World.setCell]
  have hb0:=blk_set1 (.map (some (w1.heap.size+1))) (blk_set0 (.map (some w1.heap.size)) hblk)
  have hb2:(((w1.setCell ⟨B,0,none⟩ (.map (some w1.heap.size))).setCell ⟨B,1,none⟩ (.map (some (w1.heap.size+1)))).alloc (.map #[] 0)).heap[B]? = _:=(Below.heap_alloc _ _ B (by omega)).trans hb0
  have hb3:((((w1.setCell ⟨B,0,none⟩ (.map (some w1.heap.size))).setCell ⟨B,1,none⟩ (.map (some (w1.heap.size+1)))).alloc (.map #[] 0)).alloc (.map #[] 0)).heap[B]? = _:=(Below.heap_alloc _ _ B (by simp; omega)).trans hb2
  have m1:=World.ownsMap_made (H:=Unit) ((w1.setCell ⟨B,0,none⟩ (.map (some w1.heap.size))).setCell ⟨B,1,none⟩ (.map (some (w1.heap.size+1)))) Tryz.prog 9 (plainElem Tryz.prog 9)
  have m2:=World.ownsMap_made (H:=Unit) (((w1.setCell ⟨B,0,none⟩ (.map (some w1.heap.size))).setCell ⟨B,1,none⟩ (.map (some (w1.heap.size+1)))).alloc (.map #[] 0)) Tryz.prog 9 (plainElem Tryz.prog 9)
  have m1':=m1.alloc (.map #[] 0)
  rw [hs0] at m1'
  rw [World.size_alloc,hs0] at m2
  have e0:(.map []:DataW Unit)=Y1 []:=rfl
  rw [e0] at m1' m2
  have hT2:zm (fun i=>i=B) w1 ((((w1.setCell ⟨B,0,none⟩ (.map (some w1.heap.size))).setCell ⟨B,1,none⟩ (.map (some (w1.heap.size+1)))).alloc (.map #[] 0)).alloc (.map #[] 0)):=((((zm.refl (fun i=>i=B) w1).setCell (p:=⟨B,0,none⟩) (fun _=>rfl) _).setCell (p:=⟨B,1,none⟩) (fun _=>rfl) _).alloc _).alloc _
  have hB1:=fB.of (L:=[]) m1'
  rw [← hL1] at hB1
  have hB2:=fB.of (L:=[]) m2
  rw [← hM1] at hB2
  have HB1:=za hB1
  have HB2:=za hB2
  clear hB1 hB2
  have hz:((((w1.setCell ⟨B,0,none⟩ (.map (some w1.heap.size))).setCell ⟨B,1,none⟩ (.map (some (w1.heap.size+1)))).alloc (.map #[] 0)).alloc (.map #[] 0)).heap.size=w1.heap.size+2:=by rw [World.size_alloc,World.size_alloc,hs0]
  clear m1 m2 m1' e0 hb2 hb0 hs0 hi hlp hlq
  go_wp2
  clear hc0 hc1 hq f0 f1 hmm hblk
  generalize ((((w1.setCell ⟨B,0,none⟩ (.map (some w1.heap.size))).setCell ⟨B,1,none⟩ (.map (some (w1.heap.size+1)))).alloc (.map #[] 0)).alloc (.map #[] 0))=w2 at *
  have hsz:=HT.out.size
  generalize hc:w1.heap.size+1=c at *
  generalize hb:w1.heap.size=b at *
  have hbc:b≠c:=by omega
  have HBL:Hid (B<w2.heap.size):=by show _<_; omega
  have HBN:Hid (¬ (B=b∨B=c)):=by show ¬ _; omega
  have HC0:Hid (w2.cell? ⟨B,0,none⟩=some (.map (some b))):=by show _=_; simp [World.cell?,hb3]
  have HC1:Hid (w2.cell? ⟨B,1,none⟩=some (.map (some c))):=by show _=_; simp [World.cell?,hb3]
  have HEND:Hid (∀ W,zm (fun i=>i=b∨i=c) w2 W→fB W b (uf L n.data.toList a.data.toList)→fB W c (uf M1 a.data.toList n.data.toList)→ue w B none none (uf L n.data.toList a.data.toList) W):=fun W hW h1 h2=>by
   refine ⟨some b,some c,_,⟨(hW.block B HBL.out HBN.out).trans hb3,⟨(fun h=>nomatch h),fun b' e=>by cases e; exact h1⟩,⟨(fun h=>nomatch h),fun b' e=>by cases e; exact h2⟩,rfl,(fun _ _ e1 e2=>by cases e1; cases e2; exact hbc),HMIR.out,HLN.out,HALL.out⟩,(fun _ e=>.inr (by cases e; omega)),(fun _ e=>.inr (by cases e; omega)),?_⟩
   exact (HT.out.next hT2 (fun i _ e=>.inl e)).next hW (fun i hi e=>by omega)
  clear HI HT HMIR HLN HALL hT2 hb3 hL1 hM1
  refine vm (by kernel_rfl) (Yj w2 B b c (vD L n.data.toList) M1 (uf L n.data.toList a.data.toList) (uf M1 a.data.toList n.data.toList) n a) ?F ?hF (by kernel_rfl) (by kernel_rfl) (fun x=>Yj.start x HB1.out HB2.out) ?step ?fin
  case hF =>
   intro x
   simp only [List.map_cons,List.map_nil,vH,Act.put,List.setIfInBounds_toArray,List.set_cons_zero,List.set_cons_succ,Nat.zero_add,Nat.reduceAdd]
   exact rfl
  case step =>
   rw [← HPD.out]
   refine ⟨?_,?_,?_,?_,?_,?_,?_,?_,?_,?_,?_,?_,?_,?_,?_,?_,?_,?_,trivial⟩
   ·
    intro D x W hi hd hI K hK
    clear hd
    go_simp
    exact hK _ _ (hI.quiet 0 _ rfl (fun _=>rfl) (fun h=>absurd h (by decide)) (fun h=>absurd h (by decide)))
   ·
    intro D x W hi hd hI K hK
    have h0:x 0=_:=hI.y 0 (by decide) (hd 0 rfl)
    clear hd
    simp only [h0] at hK
    go_simp
    exact hK _ _ (hI.quiet 1 _ rfl (fun _=>rfl) (fun h=>absurd h (by decide)) (fun h=>absurd h (by decide)))
   ·
    intro D x W hi hd hI K hK
    have h1:x 1=_:=hI.y 1 (by decide) (hd 1 rfl)
    clear hd
    simp only [h1] at hK
    go_simp
    exact hK _ _ (hI.quiet 2 _ rfl (fun _=>rfl) (fun h=>absurd h (by decide)) (fun h=>absurd h (by decide)))
   ·
    intro D x W hi hd hI K hK
    have h2:x 2=_:=hI.y 2 (by decide) (hd 2 rfl)
    have c:=(hI.t.cell (p:=⟨B,0,none⟩) HBL.out HBN.out).trans HC0.out
    clear hd
    simp only [h2] at hK
    go_simp
    exact hK _ _ (hI.quiet 3 _ rfl (fun _=>rfl) (fun h=>absurd h (by decide)) (fun h=>absurd h (by decide)))
   ·
    intro D x W hi hd hI K hK
    clear hd
    go_simp
    exact hK _ _ (hI.quiet 4 _ rfl (fun _=>rfl) (fun h=>absurd h (by decide)) (fun h=>absurd h (by decide)))
   ·
    intro D x W hi hd hI K hK
    clear hd
    go_simp
    exact hK _ _ (hI.quiet 5 _ rfl (fun _=>rfl) (fun h=>absurd h (by decide)) (fun h=>absurd h (by decide)))
   ·
    intro D x W hi hd hI K hK
    have h5:x 5=_:=hI.y 5 (by decide) (hd 5 rfl)
    clear hd
    simp only [h5] at hK
    go_simp
    exact hK _ _ (hI.quiet 6 _ rfl (fun _=>rfl) (fun h=>absurd h (by decide)) (fun h=>absurd h (by decide)))
   ·
    intro D x W hi hd hI K hK
    have h6:x 6=_:=hI.y 6 (by decide) (hd 6 rfl)
    clear hd
    simp only [h6] at hK
    go_simp
    exact hK _ _ (hI.quiet 7 _ rfl (fun _=>rfl) (fun h=>absurd h (by decide)) (fun h=>absurd h (by decide)))
   ·
    intro D x W hi hd hI K hK
    have h7:x 7=_:=hI.y 7 (by decide) (hd 7 rfl)
    have c:=(hI.t.cell (p:=⟨B,1,none⟩) HBL.out HBN.out).trans HC1.out
    clear hd
    simp only [h7] at hK
    go_simp
    exact hK _ _ (hI.quiet 8 _ rfl (fun _=>rfl) (fun h=>absurd h (by decide)) (fun h=>absurd h (by decide)))
   ·
    intro D x W hi hd hI K hK
    clear hd
    go_simp
    exact hK _ _ (hI.quiet 9 _ rfl (fun _=>rfl) (fun h=>absurd h (by decide)) (fun h=>absurd h (by decide)))
   ·
    intro D x W hi hd hI K hK
    clear hd
    go_simp
    exact hK _ _ (hI.quiet 10 _ rfl (fun _=>rfl) (fun h=>absurd h (by decide)) (fun h=>absurd h (by decide)))
   ·
    intro D x W hi hd hI K hK
    clear hd
    go_simp
    exact hK _ _ (hI.quiet 11 _ rfl (fun _=>rfl) (fun h=>absurd h (by decide)) (fun h=>absurd h (by decide)))
   ·
    intro D x W hi hd hI K hK
    have h3:x 3=_:=hI.y 3 (by decide) (hd 3 rfl)
    have h4:x 4=_:=hI.y 4 (by decide) (hd 4 rfl)
    obtain ⟨v0,st,W1,hrun,hH,hT⟩:=half9 (hI.s.at_ 0 (by decide) hi (.inl rfl)).1 HF.out n a hn' ha'
    clear hd
    simp only [h3,h4] at hK
    go_simp
    exact hK _ _ (hI.at12 hi hH hT hbc)
   ·
    intro D x W hi hd hI K hK
    have hp:=hd 12 rfl
    obtain ⟨v0,st,h12⟩:=hI.e12 hp
    clear hd
    simp only [h12] at hK
    go_simp
    exact hK _ _ (hI.quiet 13 _ rfl (fun h=>absurd h (by decide)) (fun _=>⟨hp,v0,by rw [h12]⟩) (fun h=>absurd h (by decide)))
   ·
    intro D x W hi hd hI K hK
    have h3:x 3=_:=hI.y 3 (by decide) (hd 3 rfl)
    have h10:x 10=_:=hI.y 10 (by decide) (hd 10 rfl)
    obtain ⟨⟨v0,st,e12,hH⟩,hM⟩:=hI.s.at_ 1 (by decide) hi (.inr (hd 12 rfl))
    obtain ⟨_,v1,e13⟩:=hI.e13 (hd 13 rfl)
    have h13:x 13=.int .i64 (st:Int):=(by rw [e12] at e13; simpa using e13.symm:v1=v0∧x 13=_).2
    obtain ⟨o,ho,hst⟩:=hH
    obtain ⟨W3,hrun,hm3,hT⟩:=hst W ho
    have hd12:=hd 12 rfl
    clear hd e13 e12 hst
    simp only [h3,h13,h10] at hK
    go_simp
    exact hK undef _ (hI.at14 hi hd12 hm3 hT hbc)
   ·
    intro D x W hi hd hI K hK
    have h8:x 8=_:=hI.y 8 (by decide) (hd 8 rfl)
    have h9:x 9=_:=hI.y 9 (by decide) (hd 9 rfl)
    obtain ⟨v0,st,W1,hrun,hH,hT⟩:=half9 (hI.s.at_ 2 (by decide) hi (.inr (hd 14 rfl))).2 HG.out a n ha' hn'
    have hd14:=hd 14 rfl
    clear hd
    simp only [h8,h9] at hK
    go_simp
    exact hK _ _ (hI.at15 hi hd14 hH hT hbc)
   ·
    intro D x W hi hd hI K hK
    have hp:=hd 15 rfl
    obtain ⟨v0,st,h15⟩:=hI.e15 hp
    clear hd
    simp only [h15] at hK
    go_simp
    exact hK _ _ (hI.quiet 16 _ rfl (fun h=>absurd h (by decide)) (fun h=>absurd h (by decide)) (fun _=>⟨hp,v0,by rw [h15]⟩))
   ·
    intro D x W hi hd hI K hK
    have h8:x 8=_:=hI.y 8 (by decide) (hd 8 rfl)
    have h11:x 11=_:=hI.y 11 (by decide) (hd 11 rfl)
    obtain ⟨hM,v0,st,e15,hH⟩:=hI.s.at_ 3 (by decide) hi (.inr (hd 15 rfl))
    obtain ⟨_,v1,e16⟩:=hI.e16 (hd 16 rfl)
    have h16:x 16=.int .i64 (st:Int):=(by rw [e15] at e16; simpa using e16.symm:v1=v0∧x 16=_).2
    obtain ⟨o,ho,hst⟩:=hH
    obtain ⟨W3,hrun,hm3,hT⟩:=hst W ho
    have hd15:=hd 15 rfl
    clear hd e16 e15 hst
    simp only [h8,h16,h11] at hK
    go_simp
    exact hK undef _ (hI.at17 hi hd15 hm3 hT hbc)
  case fin =>
   intro D x W hall hI
   have HZ:=za (HEND.out W hI.t (hI.s.done9 (fun r hr=>hall _ (by simp at hr; rcases r with _ | _ | _ | _ | r <;> first | decide | omega))).1 (hI.s.done9 (fun r hr=>hall _ (by simp at hr; rcases r with _ | _ | _ | _ | r <;> first | decide | omega))).2)
   clear hI hall
   go_end0
   exact ⟨rfl,HZ.out⟩
 | some b =>
  obtain ⟨c,rfl⟩:∃ c,q=some c:=by
   have:=hi.both
   cases q with
   | none=>cases this
   | some c=>exact ⟨c,rfl⟩
  have hbc:=hi.apt b c rfl rfl
  have HB1:=za (hi.mapp.map b rfl)
  have HB2:=za (hi.mapq.map c rfl)
  have HBL:=za hi.lt
  have HBN:Hid (¬ (B=b∨B=c)):=fun e=>e.elim (fun e=>hi.pne b rfl e.symm) (fun e=>hi.qne c rfl e.symm)
  have HC0:=za hi.cell0
  have HC1:=za hi.cell1
  have HEND:Hid (∀ W,zm (fun i=>i=b∨i=c) w1 W→fB W b (uf L n.data.toList a.data.toList)→fB W c (uf M1 a.data.toList n.data.toList)→ue w B (some b) (some c) (uf L n.data.toList a.data.toList) W):=fun W hW h1 h2=>by
   refine ⟨some b,some c,_,⟨(hW.block B HBL.out HBN.out).trans HI.out.blk,⟨(fun h=>nomatch h),fun b' e=>by cases e; exact h1⟩,⟨(fun h=>nomatch h),fun b' e=>by cases e; exact h2⟩,rfl,(fun _ _ e1 e2=>by cases e1; cases e2; exact hbc),HMIR.out,HLN.out,HALL.out⟩,(fun _ e=>.inl e),(fun _ e=>.inl e),?_⟩
   exact HT.out.next hW (fun i _ e=>e.elim (fun e=>.inr (.inl (by rw [e]))) (fun e=>.inr (.inr (by rw [e]))))
  clear hi HI HT HMIR HLN HALL hlp hlq hlt0
  go_wp2
  clear hc0 hq
  generalize w1=w2 at *
  refine vm (by kernel_rfl) (Yj w2 B b c (vD L n.data.toList) M1 (uf L n.data.toList a.data.toList) (uf M1 a.data.toList n.data.toList) n a) ?F2 ?hF2 (by kernel_rfl) (by kernel_rfl) (fun x=>Yj.start x HB1.out HB2.out) ?step2 ?fin2
  case hF2 =>
   intro x
   simp only [List.map_cons,List.map_nil,vH,Act.put,List.setIfInBounds_toArray,List.set_cons_zero,List.set_cons_succ,Nat.zero_add,Nat.reduceAdd]
   exact rfl
  case step2 =>
   rw [← HPD.out]
   refine ⟨?_,?_,?_,?_,?_,?_,?_,?_,?_,?_,?_,?_,?_,?_,?_,?_,?_,?_,trivial⟩
   ·
    intro D x W hi hd hI K hK
    clear hd
    go_simp
    exact hK _ _ (hI.quiet 0 _ rfl (fun _=>rfl) (fun h=>absurd h (by decide)) (fun h=>absurd h (by decide)))
   ·
    intro D x W hi hd hI K hK
    have h0:x 0=_:=hI.y 0 (by decide) (hd 0 rfl)
    clear hd
    simp only [h0] at hK
    go_simp
    exact hK _ _ (hI.quiet 1 _ rfl (fun _=>rfl) (fun h=>absurd h (by decide)) (fun h=>absurd h (by decide)))
   ·
    intro D x W hi hd hI K hK
    have h1:x 1=_:=hI.y 1 (by decide) (hd 1 rfl)
    clear hd
    simp only [h1] at hK
    go_simp
    exact hK _ _ (hI.quiet 2 _ rfl (fun _=>rfl) (fun h=>absurd h (by decide)) (fun h=>absurd h (by decide)))
   ·
    intro D x W hi hd hI K hK
    have h2:x 2=_:=hI.y 2 (by decide) (hd 2 rfl)
    have c:=(hI.t.cell (p:=⟨B,0,none⟩) HBL.out HBN.out).trans HC0.out
    clear hd
    simp only [h2] at hK
    go_simp
    exact hK _ _ (hI.quiet 3 _ rfl (fun _=>rfl) (fun h=>absurd h (by decide)) (fun h=>absurd h (by decide)))
   ·
    intro D x W hi hd hI K hK
    clear hd
    go_simp
    exact hK _ _ (hI.quiet 4 _ rfl (fun _=>rfl) (fun h=>absurd h (by decide)) (fun h=>absurd h (by decide)))
   ·
    intro D x W hi hd hI K hK
    clear hd
    go_simp
    exact hK _ _ (hI.quiet 5 _ rfl (fun _=>rfl) (fun h=>absurd h (by decide)) (fun h=>absurd h (by decide)))
   ·
    intro D x W hi hd hI K hK
    have h5:x 5=_:=hI.y 5 (by decide) (hd 5 rfl)
    clear hd
    simp only [h5] at hK
    go_simp
    exact hK _ _ (hI.quiet 6 _ rfl (fun _=>rfl) (fun h=>absurd h (by decide)) (fun h=>absurd h (by decide)))
   ·
    intro D x W hi hd hI K hK
    have h6:x 6=_:=hI.y 6 (by decide) (hd 6 rfl)
    clear hd
    simp only [h6] at hK
    go_simp
    exact hK _ _ (hI.quiet 7 _ rfl (fun _=>rfl) (fun h=>absurd h (by decide)) (fun h=>absurd h (by decide)))
   ·
    intro D x W hi hd hI K hK
    have h7:x 7=_:=hI.y 7 (by decide) (hd 7 rfl)
    have c:=(hI.t.cell (p:=⟨B,1,none⟩) HBL.out HBN.out).trans HC1.out
    clear hd
    simp only [h7] at hK
    go_simp
    exact hK _ _ (hI.quiet 8 _ rfl (fun _=>rfl) (fun h=>absurd h (by decide)) (fun h=>absurd h (by decide)))
   ·
    intro D x W hi hd hI K hK
    clear hd
    go_simp
    exact hK _ _ (hI.quiet 9 _ rfl (fun _=>rfl) (fun h=>absurd h (by decide)) (fun h=>absurd h (by decide)))
   ·
    intro D x W hi hd hI K hK
    clear hd
    go_simp
    exact hK _ _ (hI.quiet 10 _ rfl (fun _=>rfl) (fun h=>absurd h (by decide)) (fun h=>absurd h (by decide)))
   ·
    intro D x W hi hd hI K hK
    clear hd
    go_simp
    exact hK _ _ (hI.quiet 11 _ rfl (fun _=>rfl) (fun h=>absurd h (by decide)) (fun h=>absurd h (by decide)))
   ·
    intro D x W hi hd hI K hK
    have h3:x 3=_:=hI.y 3 (by decide) (hd 3 rfl)
    have h4:x 4=_:=hI.y 4 (by decide) (hd 4 rfl)
    obtain ⟨v0,st,W1,hrun,hH,hT⟩:=half9 (hI.s.at_ 0 (by decide) hi (.inl rfl)).1 HF.out n a hn' ha'
    clear hd
    simp only [h3,h4] at hK
    go_simp
    exact hK _ _ (hI.at12 hi hH hT hbc)
   ·
    intro D x W hi hd hI K hK
    have hp:=hd 12 rfl
    obtain ⟨v0,st,h12⟩:=hI.e12 hp
    clear hd
    simp only [h12] at hK
    go_simp
    exact hK _ _ (hI.quiet 13 _ rfl (fun h=>absurd h (by decide)) (fun _=>⟨hp,v0,by rw [h12]⟩) (fun h=>absurd h (by decide)))
   ·
    intro D x W hi hd hI K hK
    have h3:x 3=_:=hI.y 3 (by decide) (hd 3 rfl)
    have h10:x 10=_:=hI.y 10 (by decide) (hd 10 rfl)
    obtain ⟨⟨v0,st,e12,hH⟩,hM⟩:=hI.s.at_ 1 (by decide) hi (.inr (hd 12 rfl))
    obtain ⟨_,v1,e13⟩:=hI.e13 (hd 13 rfl)
    have h13:x 13=.int .i64 (st:Int):=(by rw [e12] at e13; simpa using e13.symm:v1=v0∧x 13=_).2
    obtain ⟨o,ho,hst⟩:=hH
    obtain ⟨W3,hrun,hm3,hT⟩:=hst W ho
    have hd12:=hd 12 rfl
    clear hd e13 e12 hst
    simp only [h3,h13,h10] at hK
    go_simp
    exact hK undef _ (hI.at14 hi hd12 hm3 hT hbc)
   ·
    intro D x W hi hd hI K hK
    have h8:x 8=_:=hI.y 8 (by decide) (hd 8 rfl)
    have h9:x 9=_:=hI.y 9 (by decide) (hd 9 rfl)
    obtain ⟨v0,st,W1,hrun,hH,hT⟩:=half9 (hI.s.at_ 2 (by decide) hi (.inr (hd 14 rfl))).2 HG.out a n ha' hn'
    have hd14:=hd 14 rfl
    clear hd
    simp only [h8,h9] at hK
    go_simp
    exact hK _ _ (hI.at15 hi hd14 hH hT hbc)
   ·
    intro D x W hi hd hI K hK
    have hp:=hd 15 rfl
    obtain ⟨v0,st,h15⟩:=hI.e15 hp
    clear hd
    simp only [h15] at hK
    go_simp
    exact hK _ _ (hI.quiet 16 _ rfl (fun h=>absurd h (by decide)) (fun h=>absurd h (by decide)) (fun _=>⟨hp,v0,by rw [h15]⟩))
   ·
    intro D x W hi hd hI K hK
    have h8:x 8=_:=hI.y 8 (by decide) (hd 8 rfl)
    have h11:x 11=_:=hI.y 11 (by decide) (hd 11 rfl)
    obtain ⟨hM,v0,st,e15,hH⟩:=hI.s.at_ 3 (by decide) hi (.inr (hd 15 rfl))
    obtain ⟨_,v1,e16⟩:=hI.e16 (hd 16 rfl)
    have h16:x 16=.int .i64 (st:Int):=(by rw [e15] at e16; simpa using e16.symm:v1=v0∧x 16=_).2
    obtain ⟨o,ho,hst⟩:=hH
    obtain ⟨W3,hrun,hm3,hT⟩:=hst W ho
    have hd15:=hd 15 rfl
    clear hd e16 e15 hst
    simp only [h8,h16,h11] at hK
    go_simp
    exact hK undef _ (hI.at17 hi hd15 hm3 hT hbc)
  case fin2 =>
   intro D x W hall hI
   have HZ:=za (HEND.out W hI.t (hI.s.done9 (fun r hr=>hall _ (by simp at hr; rcases r with _ | _ | _ | _ | r <;> first | decide | omega))).1 (hI.s.done9 (fun r hr=>hall _ (by simp at hr; rcases r with _ | _ | _ | _ | r <;> first | decide | omega))).2)
   clear hI hall
   go_end0
   exact ⟨rfl,HZ.out⟩
end Go.Proofs.YthmomkjingcbiaaGreatDoor
namespace Go.Proofs.YthmomkjingcbiaaGreatDoor
open Go.RowKit Go.Maps Go.Shelf

theorem ue.after {w w1 w':World} {B:Nat} {p q:Option Nat} {L':zB} (ht:Jy B p q w w1) (h:ue w1 B p q L' w'):ue w B p q L' w':=by
 obtain ⟨p',q',M',hd,hp,hq,hu⟩:=h
 exact ⟨p',q',M',hd,fun b e=>(hp b e).imp id (fun h=>Nat.le_trans ht.size h),fun b e=>(hq b e).imp id (fun h=>Nat.le_trans ht.size h),zm.next ht hu (fun i _ h=>h)⟩

def Q8 (L:zB) (n a:List UInt8):Bool:=Vc L a && decide (Qw L a≠n)
def je (L:zB) (n m:List UInt8):Int:=if zf n then (if m=[] then 0 else if yP m then (if Q8 L n (zO m) then 9 else 0) else 11) else 10
def Vr (L:zB) (n m:List UInt8):zB:=if je L n m=0 then (if m=[] then vD L n else uf L n (zO m)) else L
def F8 (L:zB) (o n:List UInt8):Int:=if zf n then (if xj L o then (if xj L n && decide (n≠o) then 9 else 0) else 8) else 10
def reL9 (L:zB) (o n:List UInt8):zB:=if F8 L o n=0 then uf (vD L o) n (xk L o) else L

theorem free9 {L M:zB} (h:yw L M) {n a:List UInt8} (hb:Q8 L n a=false):Vc (vD L n) a=false:=by
 cases hd:Vc (vD L n) a
 ·
  rfl
 ·
  obtain ⟨h1,h2⟩:=yO.1 (qR hd)
  have h3:Vc L a=true:=fY h1
  have h4:Qw L a=Qw (vD L n) a:=h.own h1
  unfold Q8 at hb
  rw [h3,Bool.true_and,decide_eq_false_iff_not] at hb
  have h5:Qw L a=n:=by
   by_cases e:Qw L a=n
   ·
    exact e
   ·
    exact absurd e hb
  exact absurd (h4.symm.trans h5) h2
theorem free9b {L M:zB} (h:yw L M) {o n:List UInt8} (ho:xj L o=true):Vc (vD (vD L o) n) (xk L o)=false:=by
 cases hd:Vc (vD (vD L o) n) (xk L o)
 ·
  rfl
 ·
  obtain ⟨h1,_⟩:=yO.1 (qR hd)
  obtain ⟨h1,h2⟩:=yO.1 h1
  exact absurd (h.one h1 (xU ho)) h2
theorem put_le9 {L:zB} (hr:vi L) (n a:List UInt8):(uf L n a).length≤L.length+1:=by
 rw [qp hr]; split <;> omega
theorem qA (l:List UInt8):(ByteArray.mk (zO l).toArray).data.toList=zO l:=by simp

set_option maxRecDepth 100000 in
theorem set9_calls (B:Nat) (p q:Option Nat) (L M:zB) (n m:ByteArray) (w:World) (h:vE w B p q L M) (hn:n.size≤9223372036854775807) (hmz:m.size≤9223372036854775807) (hl:L.length<100) (h5:vR w) :
  Calls Tryz.prog 221 #[.pointer (some ⟨B,0,none⟩),.string n,.string m] w fun e w'=>e=.returned (.int .i64 (je L n.data.toList m.data.toList))∧ue w B p q (Vr L n.data.toList m.data.toList) w':=by
 have hn':n.size≤maxLen:=Nat.le_trans hn (by decide)
 have HN:=za (yb n w hn)
 have HI:=za h
 unfold Vr
 cases hb:zf n.data.toList with
 | false =>
  rw [hb] at HN
  have HN2:Hid (Calls Tryz.prog 52 #[.string n] w (yH 10 w)):=HN.out
  have e1:je L n.data.toList m.data.toList=10:=by unfold je; rw [hb]; rfl
  rw [e1,if_neg (by decide)]
  clear HN hb h e1
  go_enter Tryz.func221,Tryz.ntmps221
  go_wp2_with fail
  with_reducible refine HN2.out.mono ?_
  rintro e w1 ⟨rfl,hb⟩
  have HB:=za hb
  clear hb HN2
  go_wp2
  go_ret
  exact ⟨rfl,ue.still HI.out HB.out⟩
 | true =>
  rw [hb] at HN
  have HN2:Hid (Calls Tryz.prog 52 #[.string n] w (yH 0 w)):=HN.out
  have HNM:=za hb
  clear HN
  by_cases h0:m.size=0
  ·
   obtain rfl:m=⟨#[]⟩:=by
    obtain ⟨d⟩:=m
    obtain rfl:d=#[]:=Array.eq_empty_of_size_eq_zero h0
    rfl
   have e1:je L n.data.toList (ByteArray.mk #[]).data.toList=0:=by unfold je; rw [hb]; rfl
   rw [e1,if_pos rfl,if_pos (by rfl)]
   have HD:Hid (∀ W,vE W B p q L M→Calls Tryz.prog 120 #[.pointer (some ⟨B,0,none⟩),.string n] W fun e w'=>e=.returned (.bool (xj L n.data.toList))∧(∃ M',vE w' B p q (vD L n.data.toList) M')∧Jy B p q W w'):=fun W hW=>qU B p q L M n W hW hn'
   clear hb h e1 hmz
   generalize xj L n.data.toList=r at *
   go_enter Tryz.func221,Tryz.ntmps221
   go_wp2_with fail
   with_reducible refine HN2.out.mono ?_
   rintro e w1 ⟨rfl,hb⟩
   have HB:=za hb
   have HD1:=za (HD.out w1 (HI.out.later hb))
   clear hb HN2 HD
   go_wp2_with fail
   with_reducible refine HD1.out.mono ?_
   rintro e w2 ⟨rfl,⟨M2,hi⟩,ht⟩
   have HF:Hid (ue w B p q (vD L n.data.toList) w2):=ue.ahead HB.out ⟨p,q,M2,hi,(fun _ e=>.inl e),(fun _ e=>.inl e),ht⟩
   clear hi ht HD1
   go_wp2
   go_ret
   exact ⟨rfl,HF.out⟩
  ·
   have hne:¬ m.toList=[]:=fun e=>h0 (by rw [← zq,← ByteArray.toList_eq,e]; rfl)
   have hne1:¬ m.data.toList=[]:=fun e=>h0 (by rw [← zq,e]; rfl)
   have hne2:m.toList.isEmpty=false:=by simpa using hne
   have HM:Hid (∀ W,vR W→Calls Tryz.prog 220 #[.string m] W (Mails5 (yP m.data.toList) (qf m.data.toList) W)):=fun W hW=>Zx m W hmz hW
   have H5:=za h5
   cases hc:yP m.data.toList with
   | false =>
    have e1:je L n.data.toList m.data.toList=11:=by unfold je; rw [hb,if_pos rfl,if_neg hne1,hc]; rfl
    rw [e1,if_neg (by decide)]
    unfold qf at HM
    rw [hc] at HM
    have HM2:Hid (∀ W,vR W→Calls Tryz.prog 220 #[.string m] W fun e w'=>e=.returned (.tuple #[.string ⟨#[]⟩,.int .i64 11])∧Below W.heap.size W w'):=HM.out
    clear HM hb h e1 hmz hc h5 hne1
    go_enter Tryz.func221,Tryz.ntmps221
    go_wp2_with fail
    with_reducible refine HN2.out.mono ?_
    rintro e w1 ⟨rfl,hb⟩
    have HB:=za hb
    have HM1:=za (HM2.out w1 (H5.out.later hb))
    clear hb HN2 HM2
    go_wp2_with fail
    with_reducible refine HM1.out.mono ?_
    rintro e w2 ⟨rfl,hb⟩
    have HF:=za (z8 HB.out hb)
    clear hb HM1
    go_wp2
    go_ret
    exact ⟨rfl,ue.still HI.out HF.out⟩
   | true =>
    unfold qf at HM
    rw [hc] at HM
    have HM2:Hid (∀ W,vR W→Calls Tryz.prog 220 #[.string m] W fun e w'=>e=.returned (.tuple #[.string ⟨(zO m.data.toList).toArray⟩,.int .i64 0])∧Below W.heap.size W w'):=HM.out
    have hfz:(ByteArray.mk (zO m.data.toList).toArray).size≤maxLen:=by
     show (zO m.data.toList).toArray.size≤_
     rw [List.size_toArray,vZ,zq]; exact Nat.le_trans hmz (by decide)
    have HLK:Hid (∀ W,vE W B p q L M→(Instr.lookup 76 (.map q) (.string ⟨(zO m.data.toList).toArray⟩) true).run Tryz.prog W=.ok (.tuple #[.string (tx7 (Qw L (zO m.data.toList))),.bool (Vc L (zO m.data.toList))]) W):=fun W hW=>by
     have:=look9 hW.mapq ⟨(zO m.data.toList).toArray⟩ hfz
     rw [qA,hW.mir.get,hW.mir.has] at this
     exact this
    have e0:je L n.data.toList m.data.toList=if Q8 L n.data.toList (zO m.data.toList) then 9 else 0:=by unfold je; rw [hb,if_pos rfl,if_neg hne1,hc,if_pos rfl]
    have HP:Hid (Q8 L n.data.toList (zO m.data.toList)=false→∀ W,Below w.heap.size w W→Calls Tryz.prog 222 #[.pointer (some ⟨B,0,none⟩),.string n,.string ⟨(zO m.data.toList).toArray⟩] W fun e w'=>e=.returned (.tuple #[])∧ue w B p q (uf L n.data.toList (zO m.data.toList)) w'):=fun hbd W hW=>by
     have hfr:=free9 h.mir hbd
     have:=VA B p q L M n ⟨(zO m.data.toList).toArray⟩ W (h.later hW) (by rw [qA]; exact May9.of hb hc) (by rw [qA]; exact hfr) (by rw [qA]; exact Nat.le_trans (put_le9 h.rise _ _) hl)
     rw [qA] at this
     exact this.mono fun e w' ⟨he,hg⟩=>⟨he,hg.ahead hW⟩
    rw [if_neg hne1,e0]
    clear HM e0 hfz h5 hc
    cases hho:Vc L (zO m.data.toList) with
    | false =>
     have hbd:Q8 L n.data.toList (zO m.data.toList)=false:=by unfold Q8; rw [hho]; rfl
     have HP2:=za (HP.out hbd)
     rw [hbd,if_neg (by decide),if_pos rfl]
     rw [hho] at HLK
     clear HP hbd hho hb h hmz hne1
     generalize tx7 (Qw L (zO m.data.toList))=o at *
     generalize (⟨(zO m.data.toList).toArray⟩:ByteArray)=f at *
     go_enter Tryz.func221,Tryz.ntmps221
     go_wp2_with fail
     with_reducible refine HN2.out.mono ?_
     rintro e w1 ⟨rfl,hb⟩
     have HB:=za hb
     have HM1:=za (HM2.out w1 (H5.out.later hb))
     clear hb HN2 HM2
     go_wp2_with fail
     with_reducible refine HM1.out.mono ?_
     rintro e w2 ⟨rfl,hb⟩
     have hb2:=z8 HB.out hb
     have l1:=HLK.out w2 (HI.out.later hb2)
     have c1:=(HI.out.later hb2).cell1
     have HP3:=za (HP2.out w2 hb2)
     clear hb HM1 HLK HP2 hb2
     go_wp2_with fail
     with_reducible refine HP3.out.mono ?_
     rintro e w3 ⟨rfl,hg⟩
     have HG:=za hg
     clear hg HP3 l1 c1
     go_wp2
     go_ret
     exact ⟨rfl,HG.out⟩
    | true =>
     rw [hho] at HLK
     by_cases ho:Qw L (zO m.data.toList)=n.data.toList
     ·
      have hbd:Q8 L n.data.toList (zO m.data.toList)=false:=by unfold Q8; rw [ho]; simp
      have HP2:=za (HP.out hbd)
      rw [hbd,if_neg (by decide),if_pos rfl]
      rw [ho,ul] at HLK
      have n1:(n.toList != n.toList)=false:=by simp
      have n2:(n.toList == n.toList)=true:=by simp
      clear HP hbd hho hb h hmz ho hne1
      generalize (⟨(zO m.data.toList).toArray⟩:ByteArray)=f at *
      go_enter Tryz.func221,Tryz.ntmps221
      go_wp2_with fail
      with_reducible refine HN2.out.mono ?_
      rintro e w1 ⟨rfl,hb⟩
      have HB:=za hb
      have HM1:=za (HM2.out w1 (H5.out.later hb))
      clear hb HN2 HM2
      go_wp2_with fail
      with_reducible refine HM1.out.mono ?_
      rintro e w2 ⟨rfl,hb⟩
      have hb2:=z8 HB.out hb
      have l1:=HLK.out w2 (HI.out.later hb2)
      have c1:=(HI.out.later hb2).cell1
      have HP3:=za (HP2.out w2 hb2)
      clear hb HM1 HLK HP2 hb2
      go_wp2_with fail
      with_reducible refine HP3.out.mono ?_
      rintro e w3 ⟨rfl,hg⟩
      have HG:=za hg
      clear hg HP3 l1 c1
      go_wp2
      go_ret
      exact ⟨rfl,HG.out⟩
     ·
      have hbd:Q8 L n.data.toList (zO m.data.toList)=true:=by unfold Q8; rw [hho,Bool.true_and,decide_eq_true ho]
      rw [hbd,if_pos rfl,if_neg (by decide)]
      have n1:¬ (tx7 (Qw L (zO m.data.toList))).toList=n.toList:=by
       rw [Lib.toList_data,Lib.toList_data,yC]; exact ho
      have n2:((tx7 (Qw L (zO m.data.toList))).toList == n.toList)=false:=by simpa using n1
      clear HP hbd hho hb h hmz ho hne1
      generalize tx7 (Qw L (zO m.data.toList))=o at *
      generalize (⟨(zO m.data.toList).toArray⟩:ByteArray)=f at *
      go_enter Tryz.func221,Tryz.ntmps221
      go_wp2_with fail
      with_reducible refine HN2.out.mono ?_
      rintro e w1 ⟨rfl,hb⟩
      have HB:=za hb
      have HM1:=za (HM2.out w1 (H5.out.later hb))
      clear hb HN2 HM2
      go_wp2_with fail
      with_reducible refine HM1.out.mono ?_
      rintro e w2 ⟨rfl,hb⟩
      have hb2:=z8 HB.out hb
      have l1:=HLK.out w2 (HI.out.later hb2)
      have c1:=(HI.out.later hb2).cell1
      have HF:=za hb2
      clear hb HM1 HLK hb2
      go_wp2
      go_ret
      exact ⟨rfl,ue.still HI.out HF.out⟩

set_option maxRecDepth 100000 in
theorem Uk (B:Nat) (p q:Option Nat) (L M:zB) (o n:ByteArray) (w:World) (h:vE w B p q L M) (ho:o.size≤9223372036854775807) (hn:n.size≤9223372036854775807) :
  Calls Tryz.prog 152 #[.pointer (some ⟨B,0,none⟩),.string o,.string n] w fun e w'=>e=.returned (.int .i64 (F8 L o.data.toList n.data.toList))∧ue w B p q (reL9 L o.data.toList n.data.toList) w':=by
 have hn':n.size≤maxLen:=Nat.le_trans hn (by decide)
 have ho':o.size≤maxLen:=Nat.le_trans ho (by decide)
 have HN:=za (yb n w hn)
 have HI:=za h
 have HLO:Hid (∀ W,vE W B p q L M→(Instr.lookup 76 (.map p) (.string o) true).run Tryz.prog W=.ok (.tuple #[.string (tx7 (xk L o.data.toList)),.bool (xj L o.data.toList)]) W):=fun W hW=>look9 hW.mapp o ho'
 have HLN:Hid (∀ W,vE W B p q L M→(Instr.lookup 76 (.map p) (.string n) true).run Tryz.prog W=.ok (.tuple #[.string (tx7 (xk L n.data.toList)),.bool (xj L n.data.toList)]) W):=fun W hW=>look9 hW.mapp n hn'
 unfold reL9
 cases hb:zf n.data.toList with
 | false =>
  rw [hb] at HN
  have HN2:Hid (Calls Tryz.prog 52 #[.string n] w (yH 10 w)):=HN.out
  have e1:F8 L o.data.toList n.data.toList=10:=by unfold F8; rw [hb]; rfl
  rw [e1,if_neg (by decide)]
  clear HN hb h e1 HLO HLN
  go_enter Tryz.func152,Tryz.ntmps152
  go_wp2_with fail
  with_reducible refine HN2.out.mono ?_
  rintro e w1 ⟨rfl,hb⟩
  have HB:=za hb
  clear hb HN2
  go_wp2
  go_ret
  exact ⟨rfl,ue.still HI.out HB.out⟩
 | true =>
  rw [hb] at HN
  have HN2:Hid (Calls Tryz.prog 52 #[.string n] w (yH 0 w)):=HN.out
  clear HN
  have hnot:∀ (x:Bool) (w:World),(Op.unary .not (.bool x)).run Tryz.prog w=.ok (.bool (!x)) w:=fun _ _=>rfl
  cases hh:xj L o.data.toList with
  | false =>
   have e1:F8 L o.data.toList n.data.toList=8:=by unfold F8; rw [hb,if_pos rfl,hh]; rfl
   rw [e1,if_neg (by decide)]
   rw [hh] at HLO
   clear hb h e1 HLN hh
   generalize tx7 (xk L o.data.toList)=g at *
   go_enter Tryz.func152,Tryz.ntmps152
   go_wp2_with fail
   with_reducible refine HN2.out.mono ?_
   rintro e w1 ⟨rfl,hb⟩
   have HB:=za hb
   have l0:=HLO.out w1 (HI.out.later hb)
   have c0:=(HI.out.later hb).cell0
   clear hb HN2 HLO
   go_wp2
   go_ret
   exact ⟨rfl,ue.still HI.out HB.out⟩
  | true =>
   have hmay:=h.all _ (xU hh)
   rw [hh] at HLO
   have e0:F8 L o.data.toList n.data.toList=if xj L n.data.toList && decide (n.data.toList≠o.data.toList) then 9 else 0:=by unfold F8; rw [hb,if_pos rfl,hh,if_pos rfl]
   rw [e0]
   cases hx:(xj L n.data.toList && decide (n.data.toList≠o.data.toList)) with
   | true =>
    rw [if_pos rfl,if_neg (by decide)]
    rw [Bool.and_eq_true,decide_eq_true_eq] at hx
    rw [hx.1] at HLN
    have n1:¬ n.toList=o.toList:=by rw [Lib.toList_data,Lib.toList_data]; exact hx.2
    have n2:(n.toList == o.toList)=false:=by simpa using n1
    clear hb h hmay e0 hx hh
    generalize tx7 (xk L o.data.toList)=g at *
    generalize tx7 (xk L n.data.toList)=g2 at *
    go_enter Tryz.func152,Tryz.ntmps152
    go_wp2_with fail
    with_reducible refine HN2.out.mono ?_
    rintro e w1 ⟨rfl,hb⟩
    have HB:=za hb
    have l0:=HLO.out w1 (HI.out.later hb)
    have l1:=HLN.out w1 (HI.out.later hb)
    have c0:=(HI.out.later hb).cell0
    clear hb HN2 HLO HLN
    go_wp2
    go_ret
    exact ⟨rfl,ue.still HI.out HB.out⟩
   | false =>
    rw [if_neg (by decide),if_pos rfl]
    have hfit:(uf (vD L o.data.toList) n.data.toList (xk L o.data.toList)).length≤100:=by
     have h1:=put_le9 (qM h.rise o.data.toList) n.data.toList (xk L o.data.toList)
     have h2:=VV h.rise hh
     have:=h.few
     omega
    have hfr:=free9b h.mir (n:=n.data.toList) hh
    have HD:Hid (∀ W,vE W B p q L M→Calls Tryz.prog 120 #[.pointer (some ⟨B,0,none⟩),.string o] W fun e w'=>e=.returned (.bool (xj L o.data.toList))∧(∃ M',vE w' B p q (vD L o.data.toList) M')∧Jy B p q W w'):=fun W hW=>qU B p q L M o W hW ho'
    have HP:Hid (∀ W M',vE W B p q (vD L o.data.toList) M'→Calls Tryz.prog 222 #[.pointer (some ⟨B,0,none⟩),.string n,.string (tx7 (xk L o.data.toList))] W fun e w'=>e=.returned (.tuple #[])∧ue W B p q (uf (vD L o.data.toList) n.data.toList (xk L o.data.toList)) w'):=fun W M' hW=>by
     have:=VA B p q _ M' n (tx7 (xk L o.data.toList)) W hW (by rw [yC]; exact ⟨hb,hmay.2⟩) (by rw [yC]; exact hfr) (by rw [yC]; exact hfit)
     rw [yC] at this
     exact this
    rw [hh] at HD
    have hcase:xj L n.data.toList=false∨(xj L n.data.toList=true∧n=o):=by
     cases hz:xj L n.data.toList
     ·
      exact .inl rfl
     ·
      rw [hz,Bool.true_and,decide_eq_false_iff_not] at hx
      refine .inr ⟨rfl,?_⟩
      have:n.data.toList=o.data.toList:=by
       by_cases e:n.data.toList=o.data.toList
       ·
        exact e
       ·
        exact absurd e hx
      rw [← ul n,this,ul]
    clear hb h hmay e0 hx hh hfr hfit
    generalize tx7 (xk L o.data.toList)=g at *
    rcases hcase with hz | ⟨hz,rfl⟩
    ·
     rw [hz] at HLN
     clear hz
     generalize tx7 (xk L n.data.toList)=g2 at *
     go_enter Tryz.func152,Tryz.ntmps152
     go_wp2_with fail
     with_reducible refine HN2.out.mono ?_
     rintro e w1 ⟨rfl,hb⟩
     have HB:=za hb
     have l0:=HLO.out w1 (HI.out.later hb)
     have l1:=HLN.out w1 (HI.out.later hb)
     have c0:=(HI.out.later hb).cell0
     have HD1:=za (HD.out w1 (HI.out.later hb))
     clear hb HN2 HLO HLN HD
     go_wp2_with fail
     with_reducible refine HD1.out.mono ?_
     rintro e w2 ⟨rfl,⟨M2,hi⟩,ht⟩
     have HT:=za ht
     have HP1:=za (HP.out w2 M2 hi)
     clear hi ht HP HD1
     go_wp2_with fail
     with_reducible refine HP1.out.mono ?_
     rintro e w3 ⟨rfl,hg⟩
     have HF:=za ((hg.after HT.out).ahead HB.out)
     clear hg HP1 HT
     go_wp2
     go_ret
     exact ⟨rfl,HF.out⟩
    ·
     rw [hz] at HLN
     clear hz
     have n1:(n.toList != n.toList)=false:=by simp
     have n2:(n.toList == n.toList)=true:=by simp
     generalize tx7 (xk L n.data.toList)=g2 at *
     go_enter Tryz.func152,Tryz.ntmps152
     go_wp2_with fail
     with_reducible refine HN2.out.mono ?_
     rintro e w1 ⟨rfl,hb⟩
     have HB:=za hb
     have l0:=HLO.out w1 (HI.out.later hb)
     have c0:=(HI.out.later hb).cell0
     have HD1:=za (HD.out w1 (HI.out.later hb))
     clear hb HN2 HLO HLN HD
     go_wp2_with fail
     with_reducible refine HD1.out.mono ?_
     rintro e w2 ⟨rfl,⟨M2,hi⟩,ht⟩
     have HT:=za ht
     have HP1:=za (HP.out w2 M2 hi)
     clear hi ht HP HD1
     go_wp2_with fail
     with_reducible refine HP1.out.mono ?_
     rintro e w3 ⟨rfl,hg⟩
     have HF:=za ((hg.after HT.out).ahead HB.out)
     clear hg HP1 HT
     go_wp2
     go_ret
     exact ⟨rfl,HF.out⟩

theorem Z8 (p:Option Nat) (L:zB) (w:World) (h:vA w p L):Calls Tryz.prog 228 #[.map p] w fun e w' =>
  ∃ p',e=.returned (.map p')∧vA w' p' L∧p'.isSome=p.isSome∧(∀ b,p'=some b→w.heap.size≤b)∧Below w.heap.size w w':=by
 cases p with
 | none=>exact (AnyW.maps_Clone_nil Tryz.clone7 w).mono fun e w' ⟨he,hw⟩=>⟨none,he,⟨fun _=>h.nil rfl,(fun _ h=>nomatch h)⟩,rfl,(fun _ h=>nomatch h),by rw [hw]; exact Below.refl _ _⟩
 | some b =>
  refine (AnyW.maps_Clone_owns Tryz.clone7 9 _ b _ _ w (h.map b rfl)).mono fun e w' ⟨he,h1,_,hb⟩=>⟨_,he,⟨(fun h=>nomatch h),fun b' hb'=>?_⟩,rfl,fun b' hb'=>?_,hb⟩
  ·
   cases hb'; exact h1
  ·
   cases hb'; exact Nat.le_refl _

def New9 (w W:World) (b:Nat) (p q:Option Nat) (L M:zB):Prop:=vE W b p q L M∧w.heap.size≤b∧(∀ c,p=some c→w.heap.size≤c)∧(∀ c,q=some c→w.heap.size≤c)
theorem New9.later {w W W':World} {b:Nat} {p q:Option Nat} {L M:zB} (h:New9 w W b p q L M) (hb:Below W.heap.size W W'):New9 w W' b p q L M:=⟨h.1.later hb,h.2⟩
theorem vA.later {w w':World} {p:Option Nat} {L:zB} (h:vA w p L) (hb:Below w.heap.size w w'):vA w' p L:=h.turns (zm.of_below hb (fun _=>False)) (fun _ _ f=>f)
theorem vA.lt {w:World} {p:Option Nat} {L:zB} (h:vA w p L):∀ b,p=some b→b<w.heap.size:=fun b hb=>(h.map b hb).lt

def YCp9 (B:Nat) (p q:Option Nat):Nat→Value→Prop
 | 2,v=>v=.pointer (some ⟨B,0,none⟩)
 | 3,v=>v=.map p
 | 7,v=>v=.pointer (some ⟨B,1,none⟩)
 | 8,v=>v=.map q
 | 4,_=>True
 | 9,_=>True
 | 10,_=>True
 | 11,_=>True
 | 12,_=>True
 | _,v=>v=.pointer (some ⟨B,0,none⟩)
def Cl9 (w W:World) (L:zB) (s:Bool) (p':Option Nat):Prop:=vA W p' L∧p'.isSome=s∧∀ b,p'=some b→w.heap.size≤b
structure Cp9 (w:World) (B:Nat) (p q:Option Nat) (L M:zB) (D:Nat→Bool) (x:Nat→Value) (W:World):Prop where
 b:Below w.heap.size w W
 y:∀ {j:Nat},D j=true→YCp9 B p q j (x j)
 y4:D 4=true→∃ p',x 4=.map p'∧Cl9 w W L p.isSome p'
 y9:D 9=true→∃ q',x 9=.map q'∧Cl9 w W M q.isSome q'
 ne:D 4=true→D 9=true→∀ p' q',x 4=.map p'→x 9=.map q'→∀ b c,p'=some b→q'=some c→b≠c
 y10:D 10=true→∃ p' q',x 10=.agg #[.map p',.map q']∧Cl9 w W L p.isSome p'∧Cl9 w W M q.isSome q'∧∀ b c,p'=some b→q'=some c→b≠c
 y11:D 11=true→∃ b p' q',x 11=.pointer (some ⟨b,0,none⟩)∧New9 w W b p' q' L M
 y12:D 12=true→∃ b p' q',x 12=.pointer (some ⟨b,0,none⟩)∧New9 w W b p' q' L M
theorem Cl9.later {w W W':World} {L:zB} {s:Bool} {p':Option Nat} (h:Cl9 w W L s p') (hb:Below W.heap.size W W'):Cl9 w W' L s p':=⟨h.1.later hb,h.2⟩

section
variable {w W W':World} {B:Nat} {p q:Option Nat} {L M:zB} {D:Nat→Bool} {x:Nat→Value}
theorem uT {x:Nat→Value} {i:Nat} {v:Value}:upd x i v i=v:=if_pos rfl
theorem fb {x:Nat→Value} {i j:Nat} {v:Value} (h:j≠i):upd x i v j=x j:=if_neg h
theorem qa {D:Nat→Bool} {i j:Nat} (h:j≠i):vF D i j=D j:=if_neg h
theorem Cp9.more (h:Cp9 w B p q L M D x W) (i:Nat) (v:Value) (hb:Below W.heap.size W W') (hy:YCp9 B p q i v)
  (h4:i=4→∃ p',v=.map p'∧Cl9 w W' L p.isSome p'∧∀ b,p'=some b→W.heap.size≤b) (h9:i=9→∃ q',v=.map q'∧Cl9 w W' M q.isSome q'∧∀ b,q'=some b→W.heap.size≤b)
  (h10:i=10→∃ p' q',v=.agg #[.map p',.map q']∧Cl9 w W' L p.isSome p'∧Cl9 w W' M q.isSome q'∧∀ b c,p'=some b→q'=some c→b≠c)
  (h11:i=11→∃ b p' q',v=.pointer (some ⟨b,0,none⟩)∧New9 w W' b p' q' L M) (h12:i=12→∃ b p' q',v=.pointer (some ⟨b,0,none⟩)∧New9 w W' b p' q' L M):Cp9 w B p q L M (vF D i) (upd x i v) W':=by
 refine ⟨z8 h.b hb,fun {j} hd=>?_,fun hd=>?_,fun hd=>?_,fun hd4 hd9 p' q' e4 e9 b c eb ec=>?_,fun hd=>?_,fun hd=>?_,fun hd=>?_⟩
 ·
  by_cases e:j=i
  ·
   subst e; rw [uT]; exact hy
  ·
   rw [fb e]; rw [qa e] at hd; exact h.y hd
 ·
  by_cases e:4=i
  ·
   subst e; rw [uT]; obtain ⟨p',e1,e2,_⟩:=h4 rfl; exact ⟨p',e1,e2⟩
  ·
   rw [fb e]; rw [qa e] at hd; obtain ⟨p',e1,e2⟩:=h.y4 hd; exact ⟨p',e1,e2.later hb⟩
 ·
  by_cases e:9=i
  ·
   subst e; rw [uT]; obtain ⟨p',e1,e2,_⟩:=h9 rfl; exact ⟨p',e1,e2⟩
  ·
   rw [fb e]; rw [qa e] at hd; obtain ⟨p',e1,e2⟩:=h.y9 hd; exact ⟨p',e1,e2.later hb⟩
 ·
  subst eb ec
  by_cases i4:4=i
  ·
   subst i4
   rw [uT] at e4
   rw [fb (by decide)] at e9
   rw [qa (by decide)] at hd9
   obtain ⟨p',e1,_,e3⟩:=h4 rfl
   obtain ⟨q',f1,f2⟩:=h.y9 hd9
   rw [e4] at e1; rw [e9] at f1
   injection e1 with e1; injection f1 with f1
   have:=e3 b e1.symm
   have:=f2.1.lt c f1.symm
   omega
  ·
   by_cases i9:9=i
   ·
    subst i9
    rw [uT] at e9
    rw [fb (by decide)] at e4
    rw [qa (by decide)] at hd4
    obtain ⟨q',e1,_,e3⟩:=h9 rfl
    obtain ⟨p',f1,f2⟩:=h.y4 hd4
    rw [e9] at e1; rw [e4] at f1
    injection e1 with e1; injection f1 with f1
    have:=e3 c e1.symm
    have:=f2.1.lt b f1.symm
    omega
   ·
    rw [fb i4] at e4; rw [fb i9] at e9; rw [qa i4] at hd4; rw [qa i9] at hd9
    exact h.ne hd4 hd9 _ _ e4 e9 b c rfl rfl
 ·
  by_cases e:10=i
  ·
   subst e; rw [uT]; exact h10 rfl
  ·
   rw [fb e]; rw [qa e] at hd; obtain ⟨p',q',e1,e2,e3,e4⟩:=h.y10 hd; exact ⟨p',q',e1,e2.later hb,e3.later hb,e4⟩
 ·
  by_cases e:11=i
  ·
   subst e; rw [uT]; exact h11 rfl
  ·
   rw [fb e]; rw [qa e] at hd; obtain ⟨b,p',q',e1,e2⟩:=h.y11 hd; exact ⟨b,p',q',e1,e2.later hb⟩
 ·
  by_cases e:12=i
  ·
   subst e; rw [uT]; exact h12 rfl
  ·
   rw [fb e]; rw [qa e] at hd; obtain ⟨b,p',q',e1,e2⟩:=h.y12 hd; exact ⟨b,p',q',e1,e2.later hb⟩
theorem Cp9.quiet (h:Cp9 w B p q L M D x W) (i:Nat) {v:Value} (hy:YCp9 B p q i v) (hi:[4,9,10,11,12].contains i=false:=by rfl):Cp9 w B p q L M (vF D i) (upd x i v) W :=
 h.more i v (Below.refl _ _) hy (fun e=>by subst e; cases hi) (fun e=>by subst e; cases hi) (fun e=>by subst e; cases hi) (fun e=>by subst e; cases hi) (fun e=>by subst e; cases hi)
theorem Cp9.at4 (h:Cp9 w B p q L M D x W) {p':Option Nat} (hm:vA W' p' L) (hs:p'.isSome=p.isSome) (hz:∀ b,p'=some b→W.heap.size≤b) (hb:Below W.heap.size W W'):Cp9 w B p q L M (vF D 4) (upd x 4 (.map p')) W' :=
 h.more 4 _ hb trivial (fun _=>⟨p',rfl,⟨hm,hs,fun b e=>Nat.le_trans h.b.size (hz b e)⟩,hz⟩) (fun e=>absurd e (by decide)) (fun e=>absurd e (by decide)) (fun e=>absurd e (by decide)) (fun e=>absurd e (by decide))
theorem Cp9.at9 (h:Cp9 w B p q L M D x W) {q':Option Nat} (hm:vA W' q' M) (hs:q'.isSome=q.isSome) (hz:∀ b,q'=some b→W.heap.size≤b) (hb:Below W.heap.size W W'):Cp9 w B p q L M (vF D 9) (upd x 9 (.map q')) W' :=
 h.more 9 _ hb trivial (fun e=>absurd e (by decide)) (fun _=>⟨q',rfl,⟨hm,hs,fun b e=>Nat.le_trans h.b.size (hz b e)⟩,hz⟩) (fun e=>absurd e (by decide)) (fun e=>absurd e (by decide)) (fun e=>absurd e (by decide))
theorem Cp9.at10 (h:Cp9 w B p q L M D x W) {v:Value} (hv:∃ p' q',v=.agg #[.map p',.map q']∧Cl9 w W L p.isSome p'∧Cl9 w W M q.isSome q'∧∀ b c,p'=some b→q'=some c→b≠c):Cp9 w B p q L M (vF D 10) (upd x 10 v) W :=
 h.more 10 v (Below.refl _ _) trivial (fun e=>absurd e (by decide)) (fun e=>absurd e (by decide)) (fun _=>hv) (fun e=>absurd e (by decide)) (fun e=>absurd e (by decide))
theorem Cp9.at11 (h:Cp9 w B p q L M D x W) {p' q':Option Nat} (hp:Cl9 w W L p.isSome p') (hq:Cl9 w W M q.isSome q') (hne:∀ b c,p'=some b→q'=some c→b≠c) {w1:World} (hr:vE w1 B p q L M) :
  Cp9 w B p q L M (vF D 11) (upd x 11 (.pointer (some ⟨W.heap.size,0,none⟩))) (W.alloc (.cells #[.map p',.map q'] 164)):=by
 have hb:=z7 (Below.refl W.heap.size W) (.cells #[.map p',.map q'] 164)
 refine h.more 11 _ hb trivial (fun e=>absurd e (by decide)) (fun e=>absurd e (by decide)) (fun e=>absurd e (by decide)) (fun _=>⟨_,p',q',rfl,⟨(MapKept.heap_alloc W _).1,hp.1.later hb,hq.1.later hb,?_,hne,hr.mir,hr.few,hr.all⟩,h.b.size,hp.2.2,hq.2.2⟩) (fun e=>absurd e (by decide))
 rw [hp.2.1,hq.2.1,hr.both]
theorem Cp9.at12 (h:Cp9 w B p q L M D x W) {v:Value} (hv:∃ b p' q',v=.pointer (some ⟨b,0,none⟩)∧New9 w W b p' q' L M):Cp9 w B p q L M (vF D 12) (upd x 12 v) W :=
 h.more 12 v (Below.refl _ _) trivial (fun e=>absurd e (by decide)) (fun e=>absurd e (by decide)) (fun e=>absurd e (by decide)) (fun e=>absurd e (by decide)) (fun _=>hv)
theorem Cp9.start (w:World) (x:Nat→Value):Cp9 w B p q L M (fun _=>false) x w.drew :=
 ⟨zZ (Below.refl _ _),(fun {_} h=>nomatch h),(fun h=>nomatch h),(fun h=>nomatch h),(fun h _=>nomatch h),(fun h=>nomatch h),(fun h=>nomatch h),(fun h=>nomatch h)⟩
end

def Apart9 (L:zB) (w:World) (e:Ending) (w':World):Prop:=∃ b p q M,e=.returned (.pointer (some ⟨b,0,none⟩))∧New9 w w' b p q L M∧Below w.heap.size w w'

set_option maxRecDepth 100000 in
theorem FM (B:Nat) (p q:Option Nat) (L M:zB) (w:World) (h:vE w B p q L M):Calls Tryz.prog 165 #[.pointer (some ⟨B,0,none⟩)] w (Apart9 L w):=by
 have HR:=za h
 clear h
 go_enter Tryz.func165,Tryz.ntmps165
 go_wp2_with fail
 refine vm (by kernel_rfl) (Cp9 w B p q L M) ?F ?hF (by kernel_rfl) (by kernel_rfl) (fun x=>Cp9.start w x) ?step ?fin
 case hF =>
  intro x
  simp only [List.map_cons,List.map_nil,vH,Act.put,List.setIfInBounds_toArray,List.set_cons_zero,List.set_cons_succ,Nat.zero_add,Nat.reduceAdd]
  exact rfl
 case step =>
  refine ⟨?_,?_,?_,?_,?_,?_,?_,?_,?_,?_,?_,?_,?_,trivial⟩
  ·
   intro D x W hi hd hI K hK
   clear hd
   go_simp
   exact hK _ _ (hI.quiet 0 rfl)
  ·
   intro D x W hi hd hI K hK
   have h0:x 0=_:=hI.y (hd 0 rfl)
   clear hd
   simp only [h0] at hK
   go_simp
   exact hK _ _ (hI.quiet 1 rfl)
  ·
   intro D x W hi hd hI K hK
   have h1:x 1=_:=hI.y (hd 1 rfl)
   clear hd
   simp only [h1] at hK
   go_simp
   exact hK _ _ (hI.quiet 2 rfl)
  ·
   intro D x W hi hd hI K hK
   have h2:x 2=_:=hI.y (hd 2 rfl)
   have c:=(HR.out.later hI.b).cell0
   clear hd
   simp only [h2] at hK
   go_simp
   exact hK _ _ (hI.quiet 3 rfl)
  ·
   intro D x W hi hd hI K hK
   have h3:x 3=_:=hI.y (hd 3 rfl)
   have hc:=Z8 _ _ W (HR.out.later hI.b).mapp
   clear hd
   simp only [h3] at hK
   go_simp
   refine hc.mono ?_
   rintro e W' ⟨p',rfl,hm,hs,hz,hb⟩
   exact hK _ _ (hI.at4 hm hs hz hb)
  ·
   intro D x W hi hd hI K hK
   clear hd
   go_simp
   exact hK _ _ (hI.quiet 5 rfl)
  ·
   intro D x W hi hd hI K hK
   have h5:x 5=_:=hI.y (hd 5 rfl)
   clear hd
   simp only [h5] at hK
   go_simp
   exact hK _ _ (hI.quiet 6 rfl)
  ·
   intro D x W hi hd hI K hK
   have h6:x 6=_:=hI.y (hd 6 rfl)
   clear hd
   simp only [h6] at hK
   go_simp
   exact hK _ _ (hI.quiet 7 rfl)
  ·
   intro D x W hi hd hI K hK
   have h7:x 7=_:=hI.y (hd 7 rfl)
   have c:=(HR.out.later hI.b).cell1
   clear hd
   simp only [h7] at hK
   go_simp
   exact hK _ _ (hI.quiet 8 rfl)
  ·
   intro D x W hi hd hI K hK
   have h8:x 8=_:=hI.y (hd 8 rfl)
   have hc:=Z8 _ _ W (HR.out.later hI.b).mapq
   clear hd
   simp only [h8] at hK
   go_simp
   refine hc.mono ?_
   rintro e W' ⟨p',rfl,hm,hs,hz,hb⟩
   exact hK _ _ (hI.at9 hm hs hz hb)
  ·
   intro D x W hi hd hI K hK
   obtain ⟨p',h4,hp'⟩:=hI.y4 (hd 4 rfl)
   obtain ⟨q',h9,hq'⟩:=hI.y9 (hd 9 rfl)
   have hne:=hI.ne (hd 4 rfl) (hd 9 rfl) p' q' h4 h9
   clear hd
   simp only [h4,h9] at hK
   go_simp
   exact hK _ _ (hI.at10 ⟨p',q',rfl,hp',hq',hne⟩)
  ·
   intro D x W hi hd hI K hK
   obtain ⟨p',q',h10,hp',hq',hne⟩:=hI.y10 (hd 10 rfl)
   clear hd
   simp only [h10] at hK
   go_simp
   exact hK _ _ (hI.at11 hp' hq' hne HR.out)
  ·
   intro D x W hi hd hI K hK
   obtain ⟨b,p',q',h11,hz⟩:=hI.y11 (hd 11 rfl)
   clear hd
   simp only [h11] at hK
   go_simp
   exact hK _ _ (hI.at12 ⟨b,p',q',rfl,hz⟩)
 case fin =>
  intro D x W hall hI
  obtain ⟨b,p',q',h12,hz⟩:=hI.y12 (hall 12 (by decide))
  have HZ:Hid (Apart9 L w (.returned (.pointer (some ⟨b,0,none⟩))) W):=⟨b,p',q',M,rfl,hz,hI.b⟩
  clear hI hall hz HR
  rw [h12]
  go_wp2
  go_ret
  exact HZ.out
end Go.Proofs.YthmomkjingcbiaaGreatDoor
