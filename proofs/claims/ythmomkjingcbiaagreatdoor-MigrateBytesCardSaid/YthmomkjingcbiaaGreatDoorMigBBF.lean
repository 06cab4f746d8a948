/-
  The texts that the laws of this seat share, part 6: what the code and the document's own answers tell, walked function by function.
  Conditions: each theorem's own.
-/
import Derived.Test.YthmomkjingcbiaaGreatDoorMigBBE
set_option maxHeartbeats 16000000
namespace Go.Proofs.YthmomkjingcbiaaGreatDoor
open Go.RowKit Go.Maps Go.Sort Go.Shelf

theorem le_val8:∀ m:List UInt8,le (val m) m.length=m
 | []=>rfl
 | b::l=>by
  have hb:b.toNat<256:=b.toNat_lt
  rw [val,List.length_cons,Qt,show (b.toNat+256 * val l) / 256=val l by omega,le_val8 l]
  congr 1
  apply UInt8.toNat_inj.1
  simp only [UInt8.toNat_ofNat']
  omega

def xg (st:St):List UInt8×List UInt8:=if (yP 1 st).1.e=0 then ((zj st 65535).2,(zj (zj st 65535).1 65535).2) else ([],[])
def zS:Nat→St→St×zq
 | 0,st=>(st,[])
 | k+1,st=>((zS k (yP 1 st).1).1,xg st::(zS k (yP 1 st).1).2)
def uc (st:St):St×zq :=
 if 12<(zt st 2).2 then (zu (zt st 2).1 7,[])
 else (zu (zS (zt st 2).2 (zt st 2).1).1 (ofE ((zS (zt st 2).2 (zt st 2).1).2.map zp)),(zS (zt st 2).2 (zt st 2).1).2)
def QL (r:St×zq):Int×zq:=if r.1.e≠0 then (r.1.e,[]) else if 0<r.1.bs.length then (3,[]) else (0,r.2)
def vw:List UInt8→Int×zq
 | []=>(2,[])
 | b::r=>if b=1 then QL (uc ⟨r,0⟩) else (6,[])

theorem fj (b:UInt8) (r:List UInt8):vw (b::r)=if b=1 then QL (uc ⟨r,0⟩) else (6,[]):=rfl
def pairB (q:List UInt8×List UInt8):List UInt8:=zR 1 (zp q)
def shotR (L:zq):List UInt8:=le 1 1++(le L.length 2++L.flatMap pairB)

/-! ### The code's way -/
def xH (st:St):St:=if (zt st 1).2=1 then (zt st 1).1 else zu (zt st 1).1 6
def vj (st:St):St×Nat:=if 12<(zt st 2).2 then (zu (zt st 2).1 7,0) else zt st 2
def UQ (r:St×zq):Int×zq:=if r.1.e≠0 then (r.1.e,[]) else if ofE (r.2.map zp)≠0 then (ofE (r.2.map zp),[]) else if Yu r.1≠0 then (Yu r.1,[]) else (0,r.2)

theorem Z4 {st:St} {e:Int} (h:st.e≠0):zu st e=st:=by unfold zu; rw [if_pos (.inr h)]
theorem Ju (st:St):zu st 0=st:=by unfold zu; rw [if_pos (.inl rfl)]
theorem xt {st:St} {e:Int} (h:(zu st e).e=0):e=0∧st.e=0∧zu st e=st:=by
 by_cases he:e=0
 ·
  subst he
  rw [Ju] at h ⊢
  exact ⟨rfl,h,rfl⟩
 ·
  unfold zu at h
  by_cases hs:st.e=0
  ·
   rw [if_neg (by simp [he,hs])] at h
   exact absurd h he
  ·
   rw [if_pos (.inr hs)] at h
   exact absurd h hs
theorem Q8 {st:St} (n:Nat) (h:st.e≠0):(zO st n).1.e=st.e:=by
 unfold zO
 split
 ·
  rw [Z4 h]
 ·
  rfl
theorem Fb {st:St} (n:Nat) (h:st.e≠0):(zt st n).1.e=st.e:=Q8 n h
theorem Xd (st:St):yP 1 st=(zu (zj (zj st 65535).1 65535).1 (yk 1 (fF (zj st 65535).2 (zj (zj st 65535).1 65535).2)),fF (zj st 65535).2 (zj (zj st 65535).1 65535).2):=by
 unfold yP XH
 rw [if_pos rfl]
theorem jg (st:St):(yP 1 st).1.bs.length≤st.bs.length:=by
 rw [Xd]
 exact Nat.le_trans (yI _ _) (Nat.le_trans (zI _ _) (zI _ _))
theorem xr:∀ (k:Nat) (st:St),(zS k st).2.length=k
 | 0,_=>rfl
 | k+1,st=>by
  show (xg st::(zS k (yP 1 st).1).2).length=_
  rw [List.length_cons,xr k]

/-! ### What was read is what is written -/
theorem YH {st:St} {n:Nat} (h:(zO st n).1.e=0):st.e=0∧(zO st n).2.length=n∧st.bs=(zO st n).2++(zO st n).1.bs:=by
 unfold zO at h ⊢
 by_cases hl:st.bs.length<n
 ·
  rw [if_pos hl] at h
  obtain ⟨h1,_⟩:=xt h
  cases h1
 ·
  rw [if_neg hl] at h ⊢
  exact ⟨h,by simp only [List.length_take]; omega,(List.take_append_drop n st.bs).symm⟩
theorem U4 {st:St} {n:Nat} (h:(zt st n).1.e=0):st.e=0∧st.bs=le (zt st n).2 n++(zt st n).1.bs:=by
 obtain ⟨h1,h2,h3⟩:=YH (st:=st) (n:=n) h
 refine ⟨h1,?_⟩
 have:=le_val8 (zO st n).2
 rw [h2] at this
 show st.bs=le (val (zO st n).2) n++(zO st n).1.bs
 rw [this]
 exact h3
theorem YD {st:St} {m:Int} (h:(zj st m).1.e=0):st.e=0∧st.bs=zo (mk6 (zj st m).2)++(zj st m).1.bs:=by
 obtain ⟨h1,h2,h3⟩:=YH (st:=(zi st m).1) (n:=(zi st m).2) h
 have h4:(zi st m)=((zt st 2).1,(zt st 2).2):=by
  unfold zi at h1 ⊢
  split at h1
  ·
   obtain ⟨h5,_⟩:=xt h1
   cases h5
  ·
   rename_i hc
   rw [if_neg hc]
 have h5:(zt st 2).1.e=0:=by rw [h4] at h1; exact h1
 obtain ⟨h6,h7⟩:=U4 h5
 refine ⟨h6,?_⟩
 have e1:(zi st m).1=(zt st 2).1:=by rw [h4]
 have e2:(zi st m).2=(zt st 2).2:=by rw [h4]
 show st.bs=zo (mk6 (zO (zi st m).1 (zi st m).2).2)++(zO (zi st m).1 (zi st m).2).1.bs
 have h8:(mk6 (zO (zi st m).1 (zi st m).2).2).data.toList=(zO (zi st m).1 (zi st m).2).2:=by simp [mk6]
 unfold zo
 rw [jI,h8,h2,e2,h7,List.append_assoc,← e1]
 rw [e2] at h3
 rw [← h3]
theorem Fu {st:St} (h:(yP 1 st).1.e=0):st.e=0∧yk 1 (zp (xg st))=0∧st.bs=pairB (xg st)++(yP 1 st).1.bs:=by
 have ht:xg st=((zj st 65535).2,(zj (zj st 65535).1 65535).2):=by unfold xg; rw [if_pos h]
 rw [Xd] at h
 obtain ⟨h1,h2,h3⟩:=xt h
 obtain ⟨h4,h5⟩:=YD h2
 obtain ⟨h6,h7⟩:=YD h4
 rw [ht]
 refine ⟨h6,h1,?_⟩
 rw [Xd]
 dsimp only
 rw [h3]
 show st.bs=(zo (mk6 (zj st 65535).2)++zo (mk6 (zj (zj st 65535).1 65535).2)++[])++_
 rw [h7,List.append_nil,List.append_assoc,← h5]
theorem Za:∀ (k:Nat) {st:St},(zS k st).1.e=0→st.e=0∧(∀ q∈(zS k st).2,yk 1 (zp q)=0)∧st.bs=(zS k st).2.flatMap pairB++(zS k st).1.bs
 | 0,st,h=>⟨h,(fun q hq=>by cases hq),by simp [zS]⟩
 | k+1,st,h=>by
  obtain ⟨h1,h2,h3⟩:=Za k (st:=(yP 1 st).1) h
  obtain ⟨h4,h5,h6⟩:=Fu h1
  refine ⟨h4,fun q hq=>?_,?_⟩
  ·
   rcases List.mem_cons.1 hq with rfl | hq
   ·
    exact h5
   ·
    exact h2 q hq
  ·
   show st.bs=(xg st::(zS k (yP 1 st).1).2).flatMap pairB++(zS k (yP 1 st).1).1.bs
   rw [List.flatMap_cons,List.append_assoc,← h3]
   exact h6
theorem JR {st:St} (h:(uc st).1.e=0):st.e=0∧(∀ q∈(uc st).2,yk 1 (zp q)=0)∧ofE ((uc st).2.map zp)=0∧st.bs=le (uc st).2.length 2++((uc st).2.flatMap pairB++(uc st).1.bs):=by
 unfold uc at h ⊢
 by_cases hc:12<(zt st 2).2
 ·
  rw [if_pos hc] at h
  obtain ⟨h1,_⟩:=xt h
  cases h1
 ·
  rw [if_neg hc] at h ⊢
  dsimp only at h ⊢
  obtain ⟨h1,h2,h3⟩:=xt h
  obtain ⟨h4,h5,h6⟩:=Za _ h2
  obtain ⟨h7,h8⟩:=U4 h4
  refine ⟨h7,h5,h1,?_⟩
  rw [h3,xr,← h6]
  exact h8
theorem VR {bs:List UInt8} (h:(vw bs).1=0):(∀ q∈(vw bs).2,yk 1 (zp q)=0)∧ofE ((vw bs).2.map zp)=0∧shotR (vw bs).2=bs:=by
 cases bs with
 | nil=>cases h
 | cons b r =>
  rw [fj] at h ⊢
  by_cases hb:b=1
  ·
   rw [if_pos hb] at h ⊢
   unfold QL at h ⊢
   by_cases he:(uc ⟨r,0⟩).1.e≠0
   ·
    rw [if_pos he] at h
    exact absurd h he
   ·
    rw [if_neg he] at h ⊢
    by_cases hl:0<(uc ⟨r,0⟩).1.bs.length
    ·
     rw [if_pos hl] at h
     cases h
    ·
     rw [if_neg hl]
     obtain ⟨_,h2,h3,h4⟩:=JR (st:=⟨r,0⟩) (by simpa using he)
     refine ⟨h2,h3,?_⟩
     have h5:(uc ⟨r,0⟩).1.bs=[]:=List.eq_nil_of_length_eq_zero (by omega)
     rw [h5,List.append_nil] at h4
     unfold shotR
     dsimp only at h4 ⊢
     rw [← h4,hb]
     rfl
  ·
   rw [if_neg hb] at h
   cases h

/-! ### What is written is read -/
theorem VV {q:List UInt8×List UInt8} (h:yk 1 (zp q)=0):q.1.length≤12∧q.2.length≤12:=by
 obtain ⟨hl,_⟩:=vO h
 have h1:=hl.nm
 have h2:=hl.hs
 unfold zp at h1 h2
 dsimp only at h1 h2
 rw [← zh,yy] at h1 h2
 exact ⟨h1,h2⟩

structure May8 (l:List Us):Prop where
 all:∀ q∈jV l,yk 1 (zp q)=0
 of:ofE ((jV l).map zp)=0
 few:(jV l).length≤12
theorem Zo:∀ (L:zq),jV (L.map zp)=L
 | []=>rfl
 | q::L=>by
  show ((zp q).nm.data.toList,(zp q).hs.data.toList)::jV (L.map zp)=_
  rw [Zo L]
  unfold zp
  dsimp only
  rw [yy,yy]

/-! ### The code's way is the document's -/
theorem JU (bs:List UInt8):UQ (zS (vj (xH ⟨bs,0⟩)).2 (vj (xH ⟨bs,0⟩)).1)=vw bs:=by
 have hend:∀ (st:St),st.e=0→Yu st=if 0<st.bs.length then 3 else 0:=fun st h=>by unfold Yu; rw [h]
 have hstop:∀ (st:St) (e:Int),st.e=e→e≠0→st.bs=[]→UQ (zS (vj st).2 (vj st).1)=(e,[]):=fun st e h1 h2 h3=>by
  have hn:(zt st 2).1.e=e∧(zt st 2).2=0:=by
   have:=Fb 2 (st:=st) (by rw [h1]; exact h2)
   refine ⟨by rw [this,h1],?_⟩
   unfold zt zO
   rw [if_pos (by rw [h3]; decide)]
   rfl
  have hc:vj st=zt st 2:=by unfold vj; rw [if_neg (by omega)]
  rw [hc,hn.2]
  show UQ ((zt st 2).1,[])=_
  unfold UQ
  rw [if_pos (by show (zt st 2).1.e≠0; rw [hn.1]; exact h2)]
  show ((zt st 2).1.e,_)=_
  rw [hn.1]
 cases bs with
 | nil=>exact hstop _ 2 rfl (by decide) rfl
 | cons b r =>
  have hnum:zt ⟨b::r,0⟩ 1=(⟨r,0⟩,b.toNat):=by
   unfold zt zO
   rw [if_neg (by simp)]
   simp [val]
  rw [fj]
  by_cases hb:b=1
  ·
   subst hb
   rw [if_pos rfl]
   have hs:xH ⟨1::r,0⟩=⟨r,0⟩:=by unfold xH; rw [hnum]; rfl
   rw [hs]
   unfold uc vj
   by_cases hc:12<(zt ⟨r,0⟩ 2).2
   ·
    rw [if_pos hc,if_pos hc]
    have h7:(zu (zt ⟨r,0⟩ 2).1 7).e≠0:=fun h=>by
     obtain ⟨h1,_⟩:=xt h
     cases h1
    show UQ (zu (zt ⟨r,0⟩ 2).1 7,[])=_
    unfold UQ QL
    rw [if_pos h7,if_pos h7]
   ·
    rw [if_neg hc,if_neg hc]
    generalize zS (zt ⟨r,0⟩ 2).2 (zt ⟨r,0⟩ 2).1=q
    unfold UQ QL
    by_cases he:q.1.e=0
    ·
     rw [if_neg (by simpa using he),hend q.1 he]
     by_cases ho:ofE (q.2.map zp)=0
     ·
      rw [if_neg (by simpa using ho),ho]
      dsimp only
      rw [Ju]
      by_cases hl:0<q.1.bs.length
      ·
       simp [hl,he]
      ·
       simp [hl,he]
     ·
      rw [if_pos ho]
      dsimp only
      have:(zu q.1 (ofE (q.2.map zp))).e=ofE (q.2.map zp):=by
       unfold zu
       rw [if_neg (by simp [ho,he])]
      rw [this,if_pos ho]
    ·
     rw [if_pos he]
     dsimp only
     rw [Z4 he,if_pos he]
  ·
   rw [if_neg hb]
   have hs:xH ⟨b::r,0⟩=⟨[],6⟩:=by
    unfold xH
    rw [hnum]
    dsimp only
    rw [if_neg (show ¬ b.toNat=1 from fun h=>hb (UInt8.toNat_inj.1 h))]
    rfl
   rw [hs]
   exact hstop _ 6 rfl (by decide) rfl

theorem VC (st:St):(xH st).bs.length≤st.bs.length:=by
  unfold xH
  split
  · exact yf st 1
  · exact Nat.le_trans (yI _ _) (yf st 1)
theorem QU (st:St):(vj st).1.bs.length≤st.bs.length:=by
  unfold vj
  split
  · exact Nat.le_trans (yI _ _) (yf st 2)
  · exact yf st 2
theorem FH (st:St):(vj st).2≤12:=by
  unfold vj
  split
  · exact Nat.zero_le _
  · omega

set_option maxRecDepth 100000 in
theorem Xx (B:Nat) (st:St) (w:World) (h:Rdr w B st) (hl:st.bs.length≤1000) :
    Calls Tryz.prog 176 #[.pointer (some ⟨B,0,none⟩)] w (Void w B (xH st)):=by
  have HN:=z8 (qZ B st w h (by omega))
  obtain ⟨s0,hs0⟩:∃ s0,s0=xH st:=⟨_,rfl⟩
  have HS:Hid (s0=if (zt st 1).2=1 then (zt st 1).1 else zu (zt st 1).1 6):=hs0
  rw [← hs0]
  clear hs0 h hl
  generalize (zt st 1).2=x at *
  generalize (zt st 1).1=s1 at *
  go_enter Tryz.func176,Tryz.ntmps176
  go_wp2_with fail
  with_reducible refine HN.out.mono ?_
  rintro e w1 ⟨rfl,hd⟩
  have HD:=z8 hd
  clear hd HN
  by_cases hx:x=1
  · have hs:=HS.out
    rw [if_pos hx] at hs
    subst hx
    subst hs
    clear HS
    go_wp2
    go_end0
    exact ⟨rfl,HD.out⟩
  · have hs:=HS.out
    rw [if_neg hx] at hs
    have hz:((x:Int) != 1)=true:=by simp; omega
    have HF:=z8 (xk B s1 6 w1 HD.out.rdr)
    rw [← hs] at HF
    clear hs HS
    go_wp2_with fail
    with_reducible refine HF.out.mono ?_
    rintro e w2 ⟨rfl,hd2⟩
    have HD2:=z8 (HD.out.next hd2)
    clear hd2 HF HD
    go_wp2
    go_end0
    exact ⟨rfl,HD2.out⟩

set_option maxRecDepth 100000 in
theorem UP (B:Nat) (st:St) (w:World) (h:Rdr w B st) (hl:st.bs.length≤1000) :
    Calls Tryz.prog 178 #[.pointer (some ⟨B,0,none⟩)] w fun e w'=>e=.returned (.int .i64 (vj st).2)∧Did w B (vj st).1 w':=by
  have HN:=z8 (ff B st w h (by omega))
  have hx2:(zt st 2).2<65536:=vn st 2
  obtain ⟨c,hc⟩:∃ c,c=vj st:=⟨_,rfl⟩
  have HS:Hid (c=if 12<(zt st 2).2 then (zu (zt st 2).1 7,0) else ((zt st 2).1,(zt st 2).2)):=hc
  rw [← hc]
  clear hc h hl
  generalize (zt st 2).2=x at *
  generalize (zt st 2).1=s1 at *
  obtain ⟨s2,n⟩:=c
  go_enter Tryz.func178,Tryz.ntmps178
  go_wp2_with fail
  with_reducible refine HN.out.mono ?_
  rintro e w1 ⟨rfl,hd⟩
  have HD:=z8 hd
  clear hd HN
  by_cases hx:12<x
  · have hs:=HS.out
    rw [if_pos hx] at hs
    have hz:(x:Int) > 12:=by omega
    obtain ⟨h1,h2⟩:=Prod.mk.inj hs
    have HF:=z8 (xk B s1 7 w1 HD.out.rdr)
    rw [← h1] at HF
    subst h2
    clear hs HS h1
    go_wp2_with fail
    with_reducible refine HF.out.mono ?_
    rintro e w2 ⟨rfl,hd2⟩
    have HD2:=z8 (HD.out.next hd2)
    clear hd2 HF HD
    go_wp2
    go_ret
    exact ⟨rfl,HD2.out⟩
  · have hs:=HS.out
    rw [if_neg hx] at hs
    have hz:¬ (x:Int) > 12:=by omega
    obtain ⟨h1,h2⟩:=Prod.mk.inj hs
    subst h1
    subst h2
    clear hs HS
    go_wp2
    go_ret
    exact ⟨rfl,HD.out⟩

theorem Fv (B:Nat) (st:St) (w:World) (h:Rdr w B st) (hl:st.bs.length≤1000) (hm:vm w) (hBg:B≠0) :
    Calls Tryz.prog 236 #[.pointer (some ⟨B,0,none⟩),.int .i64 1] w fun e w'=>e=.returned (zp (xg st)).v∧Did w B (yP 1 st).1 w':=by
  have l1:=zI st 65535
  have f1:=zX st 65535
  have hg:=Xd st
  have ht:xg st=if (yP 1 st).1.e=0 then ((zj st 65535).2,(zj (zj st 65535).1 65535).2) else ([],[]):=rfl
  rw [ht,hg]
  clear ht hg
  rcases h1:zj st 65535 with ⟨s1,nm⟩
  rw [h1] at l1 f1
  have f2:=zX s1 65535
  dsimp only at l1 f1 ⊢
  rcases h2:zj s1 65535 with ⟨s2,hs⟩
  rw [h2] at f2
  dsimp only at f2 ⊢
  refine (get61_one B st w h (by omega) hm hBg nm hs s1 s2 _ h1 h2 rfl (by omega) (by omega)).mono fun e w' ⟨he,hd⟩=>⟨?_,hd⟩
  rw [he]
  split <;> rfl

theorem Z8 {w:World} {B b0:Nat} {st:St} {v:Value} {n:Nat} {xs:List Value} (hr:Rdr w B st) (h:w.ownsRow b0 47 5 v n xs):v.ownBlock≠some B:=by
  obtain ⟨u,hb,_⟩:=hr
  rcases h.2 with ⟨rfl,_⟩ | ⟨g,cap,cur,rfl,_,hg,_⟩
  · simp [Value.ownBlock]
  · intro he
    have:g=B:=by simpa [Value.ownBlock] using he
    subst this
    have:=hb.symm.trans hg
    simp at this
theorem Rdr.beside {w w':World} {B b0:Nat} {st:St} {v:Value} {n:Nat} {xs:List Value} (hr:Rdr w B st) (ho:w.ownsRow b0 47 5 v n xs) (ht:zb (fun i=>v.ownBlock=some i) w w'):Rdr w' B st:=by
  have hne:=Z8 hr ho
  have hB:=hr.lt
  obtain ⟨u,hu,hru⟩:=hr
  refine ⟨u,(ht.block B hB hne).trans hu,?_⟩
  rcases hru with h0 | ⟨g,off,cc,rfl,h1,h2,h3,h4,hbk,h5⟩
  · exact .inl h0
  · have hgn:v.ownBlock≠some g:=by
      obtain ⟨cur,fr,hcur⟩:=hbk
      intro he
      rcases ho.2 with ⟨hv,_⟩ | ⟨g',cap',cur',hv,_,hg',_⟩
      · rw [hv] at he; simp [Value.ownBlock] at he
      · rw [hv] at he
        have:g'=g:=by simpa [Value.ownBlock] using he
        subst this
        have:=hcur.symm.trans hg'
        simp at this
    exact .inr ⟨g,off,cc,rfl,h1,h2,Nat.lt_of_lt_of_le h3 ht.size,h4,hbk.keep ht hgn,fun j hj=>(ht.cell (p:=⟨g,off+j,none⟩) h3 hgn).trans (h5 j hj)⟩

theorem Zb (l:List Us) (u:Us):zT (l++[u])=zT l++u.cells.toList:=by
  unfold zT
  rw [List.flatMap_append]
  simp

def Users8 (w:World) (B:Nat) (n:Nat) (st:St) (L:zq) (e:Ending) (w':World):Prop :=
  ∃ v,e=.returned v∧w'.ownsRow w.heap.size 47 5 v n (zT (L.map zp))∧Did w B st w'

set_option maxRecDepth 100000 in
theorem Vp (B n:Nat) (st:St) (w:World) (h:Rdr w B st) (hl:st.bs.length≤1000) (hn:n≤12) (hm:vm w) (hBg:B≠0) :
    Calls Tryz.prog 177 #[.pointer (some ⟨B,0,none⟩),.int .i64 n] w (Users8 w B n (zS n st).1 (zS n st).2):=by
  obtain ⟨i0,hi,hz0,hz1,hz2⟩:=info_parts qe
  have hB:=h.lt
  have HR:=z8 (Did.refl h)
  have HM:Hid (∀ W s,Did w B s W→vm W):=fun W s hd=>by
    obtain ⟨hlt,m,hcm⟩:=hm
    exact ⟨Nat.lt_of_lt_of_le hlt hd.2.size,m,(hd.2.cell (p:=⟨0,0,none⟩) hlt (fun e=>hBg e.symm)).trans hcm⟩
  have HBG:=z8 hBg
  obtain ⟨us,hus⟩:∃ us,us=zS n st:=⟨_,rfl⟩
  rw [← hus]
  have HUS:Hid (∃ acc:zq,acc.length=0∧st.bs.length≤1000∧us=((zS (n - 0) st).1,acc++(zS (n - 0) st).2)):=⟨[],rfl,hl,hus⟩
  have HLN:Hid (us.2.length=n):=by rw [hus]; exact xr n st
  clear hus h hl hm hBg
  go_enter Tryz.func177,Tryz.ntmps177
  go_wp2
  go_loopg [5,7] n (fun gg s5 s7 wr=>∃ (k:Nat) (acc:zq) (s1:St),k≤n∧n - k≤gg∧s7=.int .i64 k∧Hid (acc.length=k∧s1.bs.length≤1000∧us=((zS (n - k) s1).1,acc++(zS (n - k) s1).2))∧Hid (Did w B s1 wr)∧Hid (wr.ownsRow w.heap.size 47 5 s5 k (zT (acc.map zp))))
  case atStart =>
    obtain ⟨acc,h0,h1,h2⟩:=HUS.out
    have:acc=[]:=List.eq_nil_of_length_eq_zero h0
    subst this
    exact ⟨0,[],st,Nat.zero_le _,by omega,rfl,⟨rfl,h1,h2⟩,HR.out,World.ownsRow_nil _ _ _ _⟩
  case round =>
    clear HUS HR
    obtain ⟨k,acc,s1,hk,hg,rfl,HAC,HD,HO⟩:=hrel
    by_cases hlt:k<n
    · have hltz:(k:Int)<(n:Int):=by omega
      have hac:=HAC.out
      rw [show n - k=(n - (k+1))+1 by omega] at hac
      have HAC2:Hid ((acc++[xg s1]).length=k+1∧(yP 1 s1).1.bs.length≤1000∧us=((zS (n - (k+1)) (yP 1 s1).1).1,(acc++[xg s1])++(zS (n - (k+1)) (yP 1 s1).1).2)) :=
        ⟨by rw [List.length_append,hac.1]; rfl,Nat.le_trans (jg s1) hac.2.1,by rw [List.append_assoc]; exact hac.2.2⟩
      have HG:Hid (Calls Tryz.prog 236 #[.pointer (some ⟨B,0,none⟩),.int .i64 1] wr fun e w'=>e=.returned (.agg #[.string (tx7 (xg s1).1),.string (tx7 (xg s1).2),.string ⟨#[]⟩,.bool false,.slice none 0 0])∧Did wr B (yP 1 s1).1 w'):=Fv B s1 wr HD.out.1 hac.2.1 (HM.out wr s1 HD.out) HBG.out
      have HT:Hid (zT ((acc++[xg s1]).map zp)=zT (acc.map zp)++[.string (tx7 (xg s1).1),.string (tx7 (xg s1).2),.string ⟨#[]⟩,.bool false,.slice none 0 0]):=by
        show _=_
        rw [List.map_append]
        exact Zb _ _
      clear hac HAC
      generalize acc++[xg s1]=acc2 at *
      generalize (yP 1 s1).1=s2 at *
      generalize tx7 (xg s1).1=sn at *
      generalize tx7 (xg s1).2=sh at *
      go_wp2_with fail
      with_reducible refine HG.out.mono ?_
      rintro e w2 ⟨rfl,hd⟩
      have HD2:=z8 (HD.out.next hd)
      have HO2:=z8 (zY (b1:=w.heap.size) HO.out (Nat.le_refl _) hd.2 (fun j hj he=>by have he':j=B:=he; omega))
      have hsz:=HD2.out.2.size
      clear hd HG HD HO
      go_wp2_with (first
        | (at_builtin; refine wpList_append_own _ rfl _ _ 57 rfl w.heap.size 47 i0 (.agg #[.string ⟨#[]⟩,.string ⟨#[]⟩,.string ⟨#[]⟩,.bool false,.slice none 0 0]) 5 80 Tryz.underlying57 hi hz0 hz1 hz2 rfl (by decide) _ _ _ rfl (HO2.out.alloc _) ⟨w2.heap.size,0,none⟩ 1 1 [.string sn,.string sh,.string ⟨#[]⟩,.bool false,.slice none 0 0] rfl rfl
            (fun j u hu=>by rw [Addr.add_lit,Nat.zero_add,World.cell?_alloc_at _ _ _ _ rfl]; simpa using hu) (by simp [Value.oneCell']) (by unfold maxLen; omega) (by omega) (by simp; omega) ?_
           intro v' w3 hown' hgrow _
           have HO3:=z8 hown'
           have HG3:=z8 hgrow
           clear hown' hgrow)
        | fail)
      go_roundg (n - (k+1))
      case measure=>omega
      case rel =>
        refine ⟨k+1,acc2,s2,by omega,by omega,by go_num,HAC2,?_,(show Hid _ from by rw [HT.out]; exact HO3.out)⟩
        have ht0:zb (fun i=>u5.ownBlock=some i) w2 w3:=(((zb.refl _ w2).alloc _).grown HG3.out (fun k hk _=>hk))
        exact z8 ⟨HD2.out.1.beside HO2.out ht0,HD2.out.2.next ht0 (fun i hi he=>by have:=(HO2.out.lt i he).1; omega)⟩
    · have hltz:¬ (k:Int)<(n:Int):=by omega
      obtain rfl:k=n:=by omega
      have hac:=HAC.out
      rw [Nat.sub_self] at hac
      have e1:us.1=s1:=by rw [hac.2.2]; rfl
      have e2:us.2=acc:=by rw [hac.2.2]; exact List.append_nil acc
      have HF:Hid (Users8 w B k us.1 us.2 (.returned u5) wr):=⟨u5,rfl,by rw [e2]; exact HO.out,by rw [e1]; exact HD.out⟩
      clear hac e1 e2 HAC HO HD
      go_wp2
      go_ret
      exact HF.out

def Read8 (w:World) (r:Int×zq) (e:Ending) (w':World):Prop :=
 (r.1≠0∧e=.returned (.tuple #[.pointer none,.int .i64 r.1])∧Below w.heap.size w w')∨(r.1=0∧∃ B,e=.returned (.tuple #[.pointer (some ⟨B,0,none⟩),.int .i64 0])∧jm w w' B r.2)

theorem jS {q:List UInt8×List UInt8} {w:World} (h:q.1.length≤1000∧q.2.length≤1000):(zp q).Ok w:=by
 have s1:(tx7 q.1).size≤1000:=by rw [← zh]; simpa [tx7] using h.1
 have s2:(tx7 q.2).size≤1000:=by rw [← zh]; simpa [tx7] using h.2
 exact { rd:=fun h=>absurd rfl h,nm:=Nat.le_trans s1 (by decide),hs:=Nat.le_trans s2 (by decide),ml:=Nat.zero_le _,nil:=fun _=>rfl,len:=Nat.le_refl _,cap:=Nat.zero_le _,all:=fun s hs=>by cases hs }
theorem Q7 (st:St) (h:st.bs.length≤1000):(xg st).1.length≤1000∧(xg st).2.length≤1000:=by
 have l1:=zI st 65535
 have f1:=zX st 65535
 have f2:=zX (zj st 65535).1 65535
 unfold xg
 split
 ·
  exact ⟨by dsimp only; omega,by dsimp only; omega⟩
 ·
  exact ⟨Nat.zero_le _,Nat.zero_le _⟩
theorem uT:∀ (k:Nat) (st:St),st.bs.length≤1000→∀ q∈(zS k st).2,q.1.length≤1000∧q.2.length≤1000
 | 0,_,_,q,hq=>by cases hq
 | k+1,st,h,q,hq=>by
  rcases List.mem_cons.1 hq with rfl | hq
  ·
   exact Q7 st h
  ·
   exact uT k (yP 1 st).1 (Nat.le_trans (jg st) h) q hq

set_option maxRecDepth 100000 in
theorem Qg (u:Value) (bs:List UInt8) (w:World) (hu:Rd w u bs) (hl:bs.length≤1000) (hm:vm w) :
  Calls Tryz.prog 86 #[u] w (Read8 w (vw bs)):=by
 rw [← JU]
 have HOF:=z8 (Jf u bs w hu (by omega))
 have HM:=z8 hm
 have hc:=FH (xH ⟨bs,0⟩)
 have l1:=VC ⟨bs,0⟩
 have l2:=QU (xH ⟨bs,0⟩)
 have l0:(⟨bs,0⟩:St).bs.length≤1000:=hl
 have HSC:Hid (∀ W R,Rdr W R ⟨bs,0⟩→Calls Tryz.prog 176 #[.pointer (some ⟨R,0,none⟩)] W (Void W R (xH ⟨bs,0⟩))):=fun W R hr=>Xx R _ W hr l0
 generalize xH ⟨bs,0⟩=s1 at *
 have HCT:Hid (∀ W R,Rdr W R s1→Calls Tryz.prog 178 #[.pointer (some ⟨R,0,none⟩)] W fun e w'=>e=.returned (.int .i64 (vj s1).2)∧Did W R (vj s1).1 w'):=fun W R hr=>UP R s1 W hr (by omega)
 generalize hcs:vj s1=cs at *
 obtain ⟨s2,n⟩:=cs
 dsimp only at *
 clear hcs
 have hsh:=uT n s2 (by omega)
 have hln:=xr n s2
 have HUR:Hid (∀ W R,Rdr W R s2→vm W→R≠0→Calls Tryz.prog 177 #[.pointer (some ⟨R,0,none⟩),.int .i64 n] W (Users8 W R n (zS n s2).1 (zS n s2).2)):=fun W R hr hm hR=>Vp R n s2 W hr (by omega) hc hm hR
 generalize hus:zS n s2=us at *
 obtain ⟨s3,L⟩:=us
 dsimp only at *
 clear hus
 have HER:Hid (∀ W R,Rdr W R s3→Calls Tryz.prog 174 #[.pointer (some ⟨R,0,none⟩)] W fun e w'=>e=.returned (.int .i64 s3.e)∧W=w'):=fun W R hr=>qp R s3 W hr
 have HEN:Hid (∀ W R,Rdr W R s3→Calls Tryz.prog 175 #[.pointer (some ⟨R,0,none⟩)] W fun e w'=>e=.returned (.int .i64 (Yu s3))∧W=w'):=fun W R hr=>YU R s3 W hr
 have HLB:Hid (n=(L.map zp).length):=by show n=_; rw [List.length_map,hln]
 have HOU:Hid (∀ A c W,uz W A (L.map zp)→vm W→Calls Tryz.prog 83 #[.slice A n c] W fun e w'=>(ofE (L.map zp)≠0∧e=.returned (.tuple #[.pointer none,.int .i64 (ofE (L.map zp))])∧Below W.heap.size W w')∨(ofE (L.map zp)=0∧∃ B,e=.returned (.tuple #[.pointer (some ⟨B,0,none⟩),.int .i64 0])∧jm W w' B L)):=fun A c W hr hm=>by
  have:=of7_calls A c n (L.map zp) W HLB.out (by omega) hr (fun u hu=>by
   obtain ⟨q,hq,rfl⟩:=List.mem_map.1 hu
   exact jS (hsh q hq)) hm
  rwa [Zo] at this
 obtain ⟨out,hout⟩:∃ out,out=UQ (s3,L):=⟨_,rfl⟩
 have HO:Hid (out=if s3.e≠0 then (s3.e,[]) else if ofE (L.map zp)≠0 then (ofE (L.map zp),[]) else if Yu s3≠0 then (Yu s3,[]) else (0,L)):=hout
 rw [← hout]
 obtain ⟨A0,c0,rfl⟩:=hu.shape
 clear hout hu hm hl l0 l1 l2 hsh hln hc
 generalize ofE (L.map zp)=oe at *
 generalize Yu s3=en at *
 go_enter Tryz.func86,Tryz.ntmps86
 go_wp2_with fail
 with_reducible refine HOF.out.mono ?_
 rintro e w1 ⟨R,hR,rfl,hr,ht⟩
 have hb1:=ht.below (fun _ f=>f.elim)
 have HB1:=z8 hb1
 have HR1:=z8 (Did.refl hr)
 have hRM:R≠0:=by have:=HM.out.1; omega
 have HRM:=z8 hRM
 have HM1:Hid (∀ W s,Did w1 R s W→vm W):=fun W s hd=>by
  obtain ⟨hlt,m,hcm⟩:=HM.out.later HB1.out
  exact ⟨Nat.lt_of_lt_of_le hlt hd.2.size,m,(hd.2.cell (p:=⟨0,0,none⟩) hlt (fun e=>hRM e.symm)).trans hcm⟩
 have HBW:Hid (∀ W s,Did w1 R s W→Below w.heap.size w W):=fun W s hd=>((ht.mono (S':=fun i=>i=R) (fun _ _ f=>f.elim)).next hd.2 (fun _ _ h=>h)).below (fun i hi=>by omega)
 clear hr ht hb1 HOF hRM HM HB1
 go_wp2_with fail
 with_reducible refine (HSC.out w1 R HR1.out.rdr).mono ?_
 rintro e w2 ⟨rfl,hd⟩
 have HR2:=z8 (HR1.out.next hd)
 clear hd HSC HR1
 go_wp2_with fail
 with_reducible refine (HCT.out w2 R HR2.out.rdr).mono ?_
 rintro e w3 ⟨rfl,hd⟩
 have HR3:=z8 (HR2.out.next hd)
 clear hd HCT HR2
 go_wp2_with fail
 with_reducible refine (HUR.out w3 R HR3.out.rdr (HM1.out w3 _ HR3.out) HRM.out).mono ?_
 rintro e w4 ⟨v,rfl,ho,hd⟩
 have HR4:=z8 (HR3.out.next hd)
 obtain ⟨A,c,rfl⟩:=yD (zY (b1:=0) ho (Nat.zero_le _) (zb.refl (fun _=>False) w4) (fun _ _ f=>f))
 have HU4:=z8 (qr ho HLB.out)
 clear hd ho HUR HR3
 go_wp2_with fail
 with_reducible refine (HER.out w4 R HR4.out.rdr).mono ?_
 rintro e w5 ⟨rfl,rfl⟩
 clear HER
 by_cases h0:s3.e=0
 case neg =>
  have hz:(s3.e != 0)=true:=by simpa using h0
  have ho:=HO.out
  rw [if_pos h0] at ho
  have HF:Hid (Read8 w out (.returned (.tuple #[.pointer none,.int .i64 s3.e])) w4):=.inl ⟨by rw [ho]; exact h0,by rw [ho],HBW.out w4 _ HR4.out⟩
  clear ho HO h0
  go_wp2
  go_ret2
  exact HF.out
 have hz:(s3.e != 0)=false:=by simpa using h0
 have ho:=HO.out
 rw [if_neg (by simpa using h0)] at ho
 have HO2:=z8 ho
 have HOU4:=z8 (HOU.out A c w4 HU4.out (HM1.out w4 _ HR4.out))
 clear ho HO h0 HOU
 go_wp2_with fail
 with_reducible refine HOU4.out.mono ?_
 rintro e w6 hcase
 clear HOU4
 rcases hcase with ⟨hne,rfl,hb⟩ | ⟨h0,B,rfl,hown⟩
 ·
  have ho:=HO2.out
  rw [if_pos hne] at ho
  have hx1:(oe != 0)=true:=by simpa using hne
  have HF:Hid (Read8 w out (.returned (.tuple #[.pointer none,.int .i64 oe])) w6):=.inl ⟨by rw [ho]; exact hne,by rw [ho],z7 (HBW.out w4 _ HR4.out) hb⟩
  clear ho HO2 hne hb
  go_wp2
  go_ret2
  exact HF.out
 subst h0
 have ho:=HO2.out
 rw [if_neg (by simp)] at ho
 have HO3:=z8 ho
 have HEN6:=z8 (HEN.out w6 R (HR4.out.rdr.still (zb.of_below hown.below _)))
 have HOW:Hid (jm w w6 B L):=by
  obtain ⟨p,q0,q1,q2,q3⟩:=hown
  have hb:=HBW.out w4 _ HR4.out
  exact ⟨p,q0,Nat.le_trans hb.size q1,fun b hb'=>Nat.le_trans hb.size (q2 b hb'),z7 hb q3⟩
 clear ho HO2 hown HEN HU4
 go_wp2_with fail
 with_reducible refine HEN6.out.mono ?_
 rintro e w7 ⟨rfl,rfl⟩
 clear HEN6
 by_cases h0:en=0
 ·
  have hz2:(en != 0)=false:=by simpa using h0
  have ho:=HO3.out
  rw [if_neg (by simpa using h0)] at ho
  have HF:Hid (Read8 w out (.returned (.tuple #[.pointer (some ⟨B,0,none⟩),.int .i64 0])) w6):=.inr ⟨by rw [ho],B,rfl,by rw [ho]; exact HOW.out⟩
  clear ho HO3 h0
  go_wp2
  go_ret2
  exact HF.out
 ·
  have hz2:(en != 0)=true:=by simpa using h0
  have ho:=HO3.out
  rw [if_pos h0] at ho
  have HF:Hid (Read8 w out (.returned (.tuple #[.pointer none,.int .i64 en])) w6):=.inl ⟨by rw [ho]; exact h0,by rw [ho],HOW.out.below⟩
  clear ho HO3 h0
  go_wp2
  go_ret2
  exact HF.out

theorem Qe (st:St) (w:World) (hok:Ok st) (hl:st.bs.length≤1000) :
    Calls Tryz.prog 89 #[xS st,.int .i64 1] w fun e w'=>e=.returned (.tuple #[xS (yP 1 st).1,(zp (xg st)).v])∧zb (fun _=>False) w w':=by
  have l1:=zI st 65535
  have f1:=zX st 65535
  have o1:=hok.text 65535
  have hg:=Xd st
  have ht:xg st=if (yP 1 st).1.e=0 then ((zj st 65535).2,(zj (zj st 65535).1 65535).2) else ([],[]):=rfl
  rw [ht,hg]
  clear ht hg
  rcases h1:zj st 65535 with ⟨s1,nm⟩
  rw [h1] at l1 f1 o1
  have f2:=zX s1 65535
  dsimp only at l1 f1 o1 ⊢
  rcases h2:zj s1 65535 with ⟨s2,hs⟩
  rw [h2] at f2
  dsimp only at f2 ⊢
  refine (YR st w nm hs s1 s2 _ h1 h2 rfl hok hl o1 (by omega) (by omega) (by omega)).mono fun e w' ⟨he,hd⟩=>⟨?_,hd⟩
  rw [he]
  split <;> rfl

structure Rg8 (w:World) (cs zs:Array Value) (W:World):Prop where
  r:W.heap[w.heap.size]? = some (.cells cs 117 (0,0))
  z:W.heap[w.heap.size+1]? = some (.cells zs 117 (0,0))
  t:zb (fun _=>False) w W
section
variable {w W W':World} {cs zs:Array Value} {a b a' b':Value}
theorem Rg8.start (w:World) (a b:Value):Rg8 w #[a,b] #[.string ⟨#[]⟩,.int .i64 0] ((w.alloc (.cells #[a,b] 117)).alloc (.cells #[.string ⟨#[]⟩,.int .i64 0] 117)) :=
  ⟨yl (yZ rfl),yZ (by simp),((zb.refl _ _).alloc _).alloc _⟩
theorem Rg8.still (h:Rg8 w cs zs W) (ht:zb (fun _=>False) W W'):Rg8 w cs zs W' :=
  have k:∀ {B:Nat} {o:Obj},W.heap[B]? = some o→W'.heap[B]? = some o:=fun hb=>(ht.block _ (Array.getElem?_eq_some_iff.1 hb).1 (fun f=>f)).trans hb
  ⟨k h.r,k h.z,h.t.next ht (fun _ _ f=>f)⟩
theorem Rg8.below (h:Rg8 w cs zs W) (hb:Below W.heap.size W W'):Rg8 w cs zs W':=h.still (zb.of_below hb _)
theorem Rg8.setR (h:Rg8 w #[a,b] zs W) (a' b':Value):Rg8 w #[a',b'] zs ((W.setCell ⟨w.heap.size,0,none⟩ a').setCell ⟨w.heap.size,1,none⟩ b'):=by
  have hr:=h.r
  refine ⟨by simp [World.setCell,Array.getElem?_modify,hr],?_,(h.t.setCell (p:=⟨w.heap.size,0,none⟩) (fun hl=>absurd hl (by simp)) _).setCell (p:=⟨w.heap.size,1,none⟩) (fun hl=>absurd hl (by simp)) _⟩
  rw [Below.heap_setCell _ _ _ _ (show w.heap.size+1≠w.heap.size by omega),Below.heap_setCell _ _ _ _ (show w.heap.size+1≠w.heap.size by omega)]
  exact h.z
theorem Rg8.setZ (h:Rg8 w cs #[a,b] W) (a' b':Value):Rg8 w cs #[a',b'] ((W.setCell ⟨w.heap.size+1,0,none⟩ a').setCell ⟨w.heap.size+1,1,none⟩ b'):=by
  have hz:=h.z
  refine ⟨?_,by simp [World.setCell,Array.getElem?_modify,hz],(h.t.setCell (p:=⟨w.heap.size+1,0,none⟩) (fun hl=>absurd hl (by simp)) _).setCell (p:=⟨w.heap.size+1,1,none⟩) (fun hl=>absurd hl (by simp)) _⟩
  rw [Below.heap_setCell _ _ _ _ (show w.heap.size≠w.heap.size+1 by omega),Below.heap_setCell _ _ _ _ (show w.heap.size≠w.heap.size+1 by omega)]
  exact h.r
theorem Rg8.row (h:Rg8 w cs zs W) (cs':Array Value):Rg8 w cs' zs (W.setRow w.heap.size cs') :=
  ⟨setRow_heap W _ _ cs' _ _ h.r,(setRow_other W _ _ cs' (by omega)).trans h.z,h.t.next (S':=fun i=>i=w.heap.size) ⟨rfl,rfl,rfl,by simp,fun k _ hk=>setRow_other W _ k cs' hk⟩ (fun i hi he=>by omega)⟩
end

theorem okGet8 {st:St} (h:Ok st):Ok (yP 1 st).1:=by
  rw [Xd]
  exact ((h.text 65535).text 65535).fail _
theorem Rg8.apart {w W W':World} {cs zs:Array Value} {S:Nat→Prop} (h:Rg8 w cs zs W) (ht:zb S W W') (hS:∀ i,S i→w.heap.size+2≤i):Rg8 w cs zs W' :=
  ⟨(ht.block _ (Array.getElem?_eq_some_iff.1 h.r).1 (fun f=>by have:=hS _ f; omega)).trans h.r,(ht.block _ (Array.getElem?_eq_some_iff.1 h.z).1 (fun f=>by have:=hS _ f; omega)).trans h.z,h.t.next ht (fun i hi f=>by have:=hS _ f; omega)⟩

def YC8 (ra vv:Value) (ck:Int) (rb:Value):Nat→Value→World→Prop
  | 0,v,_=>v=ra
  | 1,v,_=>v=vv
  | 2,v,_=>v=.int .i64 1
  | 3,v,_=>v=.int .i64 ck
  | 4,v,_=>v=rb
  | _,_,_=>True
theorem Vi {ra vv:Value} {ck:Int} {rb:Value} {W W':World} (j:Nat) (z:Value) (h:YC8 ra vv ck rb j z W):YC8 ra vv ck rb j z W':=by
  match j,h with
  | 0,h=>exact h
  | 1,h=>exact h
  | 2,h=>exact h
  | 3,h=>exact h
  | 4,h=>exact h
  | _+5,h=>exact h
def GC8 (w:World) (ra rb zs:Array Value) (v:Value) (n:Nat) (xs:List Value) (L:Nat→Bool) (W:World):Prop :=
  Rg8 w (if L 5=true then rb else ra) zs W∧W.ownsRow (w.heap.size+2) 47 5 v n xs∧(L 5=true→∀ j,j<5→L j=true)
section
variable {w W W':World} {ra rb zs:Array Value} {v:Value} {n:Nat} {xs:List Value} {L:Nat→Bool}
theorem GC8.no (h:GC8 w ra rb zs v n xs L W) (i:Nat) (hi:i<5) (hL:L i=false):L 5=false:=by
  cases h5:L 5 with
  | false=>rfl
  | true=>rw [h.2.2 h5 i hi] at hL; cases hL
theorem GC8.ahead (h:GC8 w ra rb zs v n xs L W) (i:Nat) (hi:i<5) (hL:L i=false):Rg8 w ra zs W:=by
  have:=h.1
  rw [h.no i hi hL] at this
  exact this
theorem GC8.quiet (h:GC8 w ra rb zs v n xs L W) (i:Nat) (hi:i<5) (hL:L i=false) (hb:Below W.heap.size W W'):GC8 w ra rb zs v n xs (yK L i) W':=by
  have h5:yK L i 5=false:=by rw [show yK L i 5=L 5 from if_neg (by omega)]; exact h.no i hi hL
  refine ⟨?_,zY h.2.1 (Nat.le_refl _) (zb.of_below hb (fun _=>False)) (fun _ _ f=>f),fun e=>by rw [h5] at e; cases e⟩
  rw [h5]
  exact (h.ahead i hi hL).below hb
theorem GC8.stored (h:GC8 w ra rb zs v n xs L W) (hd:∀ j,j<5→L j=true):GC8 w ra rb zs v n xs (yK L 5) (W.setRow w.heap.size rb):=by
  refine ⟨?_,zY h.2.1 (Nat.le_refl _) (S:=fun i=>i=w.heap.size) ⟨rfl,rfl,rfl,by simp,fun k _ hk=>setRow_other W _ k rb hk⟩ (fun j hj he=>by have he':j=w.heap.size:=he; omega),fun _ j hj=>by rw [show yK L 5 j=L j from if_neg (by omega)]; exact hd j hj⟩
  rw [show yK L 5 5=true from if_pos rfl,if_pos rfl]
  exact h.1.row rb
end

def xQ (w:World) (g:St×zq) (e:Ending) (w':World):Prop :=
  (∃ A n c,e=.returned (.tuple #[xS g.1,.slice A n c])∧(g.1.e=0→n=g.2.length∧uz w' A (g.2.map zp)))∧Below w.heap.size w w'

set_option maxRecDepth 100000 in
theorem Yk (st:St) (w:World) (hok:Ok st) (hl:st.bs.length≤1000) (hz:(zt st 2).1.e≠0) :
    Calls Tryz.prog 91 #[xS st,.int .i64 1] w (xQ w (uc st)):=by
  obtain ⟨i0,hi,hz0,hz1,hz2⟩:=info_parts qe
  have HGT:Hid (∀ W,Calls Tryz.prog 88 #[.agg #[.string ⟨st.bs.toArray⟩,.int .i64 st.e],.int .i64 2] W fun e w'=>e=.returned (.tuple #[.agg #[.string ⟨(zt st 2).1.bs.toArray⟩,.int .i64 (zt st 2).1.e],.int .u64 (zt st 2).2])∧zb (fun _=>False) W w'):=fun W=>uq st 2 2 W hok (by omega) rfl (by omega)
  have hzero:=qb hok 2
  have hlt:(zt st 2).2<65536:=vn st 2
  have l1:=yf st 2
  have o1:=hok.num 2
  obtain ⟨g,hgd⟩:∃ g,g=uc st:=⟨_,rfl⟩
  have HGD:Hid (g=if 12<(zt st 2).2 then (zu (zt st 2).1 7,[]) else (zu (zS (zt st 2).2 (zt st 2).1).1 (ofE ((zS (zt st 2).2 (zt st 2).1).2.map zp)),(zS (zt st 2).2 (zt st 2).1).2)):=hgd
  rw [← hgd]
  generalize (zt st 2).1=s1 at *
  generalize (zt st 2).2=n at *
  have hl1:s1.bs.length≤1000:=by omega
  clear hgd l1 hl hok
  unfold xS
  have HG0:=z8 (Rg8.start w (.string ⟨st.bs.toArray⟩) (.int .i64 st.e))
  have r0:_=some (.string ⟨st.bs.toArray⟩:Value):=zc HG0.out.r 0
  have r1:_=some (.int .i64 st.e:Value):=zc HG0.out.r 1
  go_enter Tryz.func91,Tryz.ntmps91
  go_wp2_with fail
  generalize (w.alloc (.cells #[.string ⟨st.bs.toArray⟩,.int .i64 st.e] 117)).alloc (.cells #[.string ⟨#[]⟩,.int .i64 0] 117)=W0 at *
  with_reducible refine (HGT.out W0).mono ?_
  rintro e w1 ⟨rfl,ht⟩
  have hg:=HG0.out.still ht
  clear r0 r1
  have p0:_=some (.string ⟨st.bs.toArray⟩:Value):=zc hg.r 0
  have p1:_=some (.int .i64 st.e:Value):=zc hg.r 1
  have pf:=xB hg.r
  have hg2:=hg.setR (.string ⟨s1.bs.toArray⟩) (.int .i64 s1.e)
  have HG1:=z8 hg2
  have r0:_=some (.string ⟨s1.bs.toArray⟩:Value):=zc hg2.r 0
  have r1:_=some (.int .i64 s1.e:Value):=zc hg2.r 1
  clear hg hg2 ht HG0 HGT
  generalize hW1:(w1.setCell ⟨w.heap.size,0,none⟩ (.string ⟨s1.bs.toArray⟩)).setCell ⟨w.heap.size,1,none⟩ (.int .i64 s1.e)=W1 at *
  obtain rfl:n=0:=hzero hz
  have hge:=HGD.out
  rw [if_neg (by omega)] at hge
  have hge2:g=(zu s1 (ofE (([]:zq).map zp)),[]):=hge
  rw [Z4 hz] at hge2
  have hb1:(s1.e == 0)=false:=by simpa using hz
  have hb2:(s1.e != 0)=true:=by simpa using hz
  subst hge2
  obtain ⟨t2,e2⟩:=s1
  dsimp only at *
  clear hge HGD hzero hlt o1 hl1 hi hz0 hz1 hz2
  go_wp2
  clear p0 p1 pf hW1
  go_loopg [7,8,9,25] 0 (fun gg s7 _ _ s25 wr=>s25=.int .u64 0∧Hid (Rg8 w #[.string ⟨t2.toArray⟩,.int .i64 e2] #[.string ⟨#[]⟩,.int .i64 0] wr))
  case atStart=>exact ⟨by go_num,HG1.out⟩
  case round =>
    clear HG1 r0 r1
    obtain ⟨rfl,HRG⟩:=hrel
    have r0:_=some (.string ⟨t2.toArray⟩:Value):=zc HRG.out.r 0
    have r1:_=some (.int .i64 e2:Value):=zc HRG.out.r 1
    have q0:_=some (.string ⟨#[]⟩:Value):=zc HRG.out.z 0
    have q1:_=some (.int .i64 0:Value):=zc HRG.out.z 1
    have qf:=xB HRG.out.z
    have hg2:=HRG.out.setZ (.string ⟨t2.toArray⟩) (.int .i64 e2)
    have y0:_=some (.string ⟨t2.toArray⟩:Value):=zc hg2.z 0
    have y1:_=some (.int .i64 e2:Value):=zc hg2.z 1
    have HFIN:Hid (xQ w (⟨t2,e2⟩,[]) (.returned (.tuple #[.agg #[.string ⟨t2.toArray⟩,.int .i64 e2],.slice none 0 0])) ((wr.setCell ⟨w.heap.size+1,0,none⟩ (.string ⟨t2.toArray⟩)).setCell ⟨w.heap.size+1,1,none⟩ (.int .i64 e2))):=⟨⟨none,0,0,rfl,fun h=>absurd h hz⟩,hg2.t.below (fun _ f=>f.elim)⟩
    clear hg2 HRG hz
    go_wp2
    refine bodyPost_ret (v:=.tuple #[.agg #[.string ⟨t2.toArray⟩,.int .i64 e2],.slice none 0 0]) ?_ rfl HFIN.out
    simp [results,Tryz.results91,go_sem,y0,y1]

set_option maxRecDepth 100000 in
theorem XD (st:St) (w:World) (hok:Ok st) (hl:st.bs.length≤1000) (hz:(zt st 2).1.e=0) :
    Calls Tryz.prog 91 #[xS st,.int .i64 1] w (xQ w (uc st)):=by
  obtain ⟨i0,hi,hz0,hz1,hz2⟩:=info_parts qe
  have HGT:Hid (∀ W,Calls Tryz.prog 88 #[.agg #[.string ⟨st.bs.toArray⟩,.int .i64 st.e],.int .i64 2] W fun e w'=>e=.returned (.tuple #[.agg #[.string ⟨(zt st 2).1.bs.toArray⟩,.int .i64 (zt st 2).1.e],.int .u64 (zt st 2).2])∧zb (fun _=>False) W w'):=fun W=>uq st 2 2 W hok (by omega) rfl (by omega)
  have hzero:=qb hok 2
  have hlt:(zt st 2).2<65536:=vn st 2
  have l1:=yf st 2
  have o1:=hok.num 2
  obtain ⟨g,hgd⟩:∃ g,g=uc st:=⟨_,rfl⟩
  have HGD:Hid (g=if 12<(zt st 2).2 then (zu (zt st 2).1 7,[]) else (zu (zS (zt st 2).2 (zt st 2).1).1 (ofE ((zS (zt st 2).2 (zt st 2).1).2.map zp)),(zS (zt st 2).2 (zt st 2).1).2)):=hgd
  rw [← hgd]
  generalize (zt st 2).1=s1 at *
  generalize (zt st 2).2=n at *
  have hl1:s1.bs.length≤1000:=by omega
  clear hgd l1 hl hok
  unfold xS
  have HG0:=z8 (Rg8.start w (.string ⟨st.bs.toArray⟩) (.int .i64 st.e))
  have r0:_=some (.string ⟨st.bs.toArray⟩:Value):=zc HG0.out.r 0
  have r1:_=some (.int .i64 st.e:Value):=zc HG0.out.r 1
  go_enter Tryz.func91,Tryz.ntmps91
  go_wp2_with fail
  generalize (w.alloc (.cells #[.string ⟨st.bs.toArray⟩,.int .i64 st.e] 117)).alloc (.cells #[.string ⟨#[]⟩,.int .i64 0] 117)=W0 at *
  with_reducible refine (HGT.out W0).mono ?_
  rintro e w1 ⟨rfl,ht⟩
  have hg:=HG0.out.still ht
  clear r0 r1
  have p0:_=some (.string ⟨st.bs.toArray⟩:Value):=zc hg.r 0
  have p1:_=some (.int .i64 st.e:Value):=zc hg.r 1
  have pf:=xB hg.r
  have hg2:=hg.setR (.string ⟨s1.bs.toArray⟩) (.int .i64 s1.e)
  have HG1:=z8 hg2
  have r0:_=some (.string ⟨s1.bs.toArray⟩:Value):=zc hg2.r 0
  have r1:_=some (.int .i64 s1.e:Value):=zc hg2.r 1
  clear hg hg2 ht HG0 HGT
  generalize hW1:(w1.setCell ⟨w.heap.size,0,none⟩ (.string ⟨s1.bs.toArray⟩)).setCell ⟨w.heap.size,1,none⟩ (.int .i64 s1.e)=W1 at *
  by_cases h12:12<n
  · have hs0:s1.e=0:=hz
    clear hz
    have hz12:(n:Int) > 12:=by omega
    have hge:=HGD.out
    rw [if_pos h12] at hge
    have HF:Hid (∀ W,Calls Tryz.prog 182 #[.agg #[.string ⟨s1.bs.toArray⟩,.int .i64 s1.e],.int .i64 7] W fun e w'=>e=.returned (.agg #[.string ⟨(zu s1 7).bs.toArray⟩,.int .i64 (zu s1 7).e])∧zb (fun _=>False) W w'):=fun W=>xh s1 7 W
    have hne:(zu s1 7).e≠0:=fun h=>by
      obtain ⟨h1,_⟩:=xt h
      cases h1
    rw [show zu s1 7=g.1 by rw [hge]] at HF hne
    have HNE:=z8 hne
    clear hge HGD hne hzero hlt o1 hl1 hi hz0 hz1 hz2
    obtain ⟨t1,e1⟩:=s1
    obtain ⟨⟨t2,e2⟩,L2⟩:=g
    dsimp only at *
    subst hs0
    go_wp2_with fail
    with_reducible refine (HF.out W1).mono ?_
    rintro e w2 ⟨rfl,ht⟩
    have hg:=HG1.out.still ht
    clear r0 r1 p0 p1 pf hW1
    have q0:_=some (.string ⟨#[]⟩:Value):=zc hg.z 0
    have q1:_=some (.int .i64 0:Value):=zc hg.z 1
    have qf:=xB hg.z
    have hg2:=hg.setZ (.string ⟨t2.toArray⟩) (.int .i64 e2)
    have y0:_=some (.string ⟨t2.toArray⟩:Value):=zc hg2.z 0
    have y1:_=some (.int .i64 e2:Value):=zc hg2.z 1
    have HFIN:Hid (xQ w (⟨t2,e2⟩,L2) (.returned (.tuple #[.agg #[.string ⟨t2.toArray⟩,.int .i64 e2],.slice none 0 0])) ((w2.setCell ⟨w.heap.size+1,0,none⟩ (.string ⟨t2.toArray⟩)).setCell ⟨w.heap.size+1,1,none⟩ (.int .i64 e2))):=⟨⟨none,0,0,rfl,fun h=>absurd h HNE.out⟩,hg2.t.below (fun _ f=>f.elim)⟩
    clear hg hg2 HG1 HF HNE ht
    go_wp2
    refine bodyPost_ret (v:=.tuple #[.agg #[.string ⟨t2.toArray⟩,.int .i64 e2],.slice none 0 0]) ?_ rfl HFIN.out
    simp [results,Tryz.results91,go_sem,y0,y1]
  have hz12:¬ (n:Int) > 12:=by omega
  have hge:=HGD.out
  rw [if_neg h12] at hge
  have HUS:Hid (∃ (acc:zq),acc.length=0∧s1.bs.length≤1000∧Ok s1∧zS n s1=((zS (n - 0) s1).1,acc++(zS (n - 0) s1).2)):=⟨[],rfl,hl1,o1,rfl⟩
  obtain ⟨us,hus⟩:∃ us,us=zS n s1:=⟨_,rfl⟩
  rw [← hus] at hge HUS
  have HGE:Hid (g=(zu us.1 (ofE (us.2.map zp)),us.2)):=hge
  have HLN:Hid (us.2.length=n):=by rw [hus]; exact xr n s1
  have HSH:Hid (∀ q∈us.2,q.1.length≤1000∧q.2.length≤1000):=by rw [hus]; exact uT n s1 hl1
  have hn12:n≤12:=by omega
  have hb1:(s1.e == 0)=true:=by simpa using hz
  clear hus hge HGD hzero hlt o1 hl1 h12 hz
  go_wp2
  clear p0 p1 pf hW1
  go_loopg [7,8,9,25] n (fun gg s7 _ _ s25 wr=>∃ (k:Nat) (acc:zq) (sk:St),k≤n∧n - k≤gg∧s25=.int .u64 k∧Hid (acc.length=k∧sk.bs.length≤1000∧Ok sk∧us=((zS (n - k) sk).1,acc++(zS (n - k) sk).2))∧Hid (Rg8 w #[.string ⟨sk.bs.toArray⟩,.int .i64 sk.e] #[.string ⟨#[]⟩,.int .i64 0] wr)∧Hid (wr.ownsRow (w.heap.size+2) 47 5 s7 k (zT (acc.map zp))))
  case atStart =>
    obtain ⟨acc,h0,h1,h2,h3⟩:=HUS.out
    have:acc=[]:=List.eq_nil_of_length_eq_zero h0
    subst this
    exact ⟨0,[],s1,Nat.zero_le _,by omega,by go_num,⟨rfl,h1,h2,h3⟩,HG1.out,World.ownsRow_nil _ _ _ _⟩
  case round =>
    clear HUS HG1 r0 r1 hb1
    obtain ⟨k,acc,sk,hk,hg,rfl,HAC,HRG,HO⟩:=hrel
    by_cases hlt:k<n
    · have hltz:(k:Int)<(n:Int):=by omega
      have hac:=HAC.out
      rw [show n - k=(n - (k+1))+1 by omega] at hac
      have HGT:Hid (∀ W,Calls Tryz.prog 89 #[.agg #[.string ⟨sk.bs.toArray⟩,.int .i64 sk.e],.int .i64 1] W fun e w'=>e=.returned (.tuple #[.agg #[.string ⟨(yP 1 sk).1.bs.toArray⟩,.int .i64 (yP 1 sk).1.e],.agg #[.string (tx7 (xg sk).1),.string (tx7 (xg sk).2),.string ⟨#[]⟩,.bool false,.slice none 0 0]])∧zb (fun _=>False) W w'):=fun W=>Qe sk W hac.2.2.1 hac.2.1
      have r0:_=some (.string ⟨sk.bs.toArray⟩:Value):=zc HRG.out.r 0
      have r1:_=some (.int .i64 sk.e:Value):=zc HRG.out.r 1
      go_wp2_with fail
      with_reducible refine (HGT.out wr).mono ?_
      rintro e w2 ⟨rfl,ht⟩
      clear r0 r1
      have HAC2:Hid ((acc++[xg sk]).length=k+1∧(yP 1 sk).1.bs.length≤1000∧Ok (yP 1 sk).1∧us=((zS (n - (k+1)) (yP 1 sk).1).1,(acc++[xg sk])++(zS (n - (k+1)) (yP 1 sk).1).2)) :=
        ⟨by rw [List.length_append,hac.1]; rfl,Nat.le_trans (jg sk) hac.2.1,okGet8 hac.2.2.1,by rw [List.append_assoc]; exact hac.2.2.2⟩
      have HT:Hid (zT ((acc++[xg sk]).map zp)=zT (acc.map zp)++[.string (tx7 (xg sk).1),.string (tx7 (xg sk).2),.string ⟨#[]⟩,.bool false,.slice none 0 0]):=by
        show _=_
        rw [List.map_append]
        exact Zb _ _
      clear hac HAC HGT
      generalize acc++[xg sk]=acc2 at *
      generalize (yP 1 sk).1=s2 at *
      generalize tx7 (xg sk).1=sn at *
      generalize tx7 (xg sk).2=sh at *
      have HG3:=z8 ((HRG.out.still ht).still (((zb.refl (fun _=>False) w2).alloc (.cells #[.string ⟨s2.bs.toArray⟩,.int .i64 s2.e] 117)).alloc (.cells #[.string sn,.string sh,.string ⟨#[]⟩,.bool false,.slice none 0 0] 47)))
      have p0:_=some (.string ⟨sk.bs.toArray⟩:Value):=zc HG3.out.r 0
      have p1:_=some (.int .i64 sk.e:Value):=zc HG3.out.r 1
      have pf:=xB HG3.out.r
      have hG4:=HG3.out.setR (.string ⟨s2.bs.toArray⟩) (.int .i64 s2.e)
      have HG4:=z8 hG4
      have hsz:w.heap.size+2≤w2.heap.size:=by
        have h1:=(Array.getElem?_eq_some_iff.1 (HRG.out.still ht).z).1
        omega
      have hu:((((w2.alloc (.cells #[.string ⟨s2.bs.toArray⟩,.int .i64 s2.e] 117)).alloc (.cells #[.string sn,.string sh,.string ⟨#[]⟩,.bool false,.slice none 0 0] 47)).setCell ⟨w.heap.size,0,none⟩ (.string ⟨s2.bs.toArray⟩)).setCell ⟨w.heap.size,1,none⟩ (.int .i64 s2.e)).heap[w2.heap.size+1]? = some (.cells #[.string sn,.string sh,.string ⟨#[]⟩,.bool false,.slice none 0 0] 47 (0,0)):=by
        rw [Below.heap_setCell _ _ _ _ (show w2.heap.size+1≠w.heap.size by omega),Below.heap_setCell _ _ _ _ (show w2.heap.size+1≠w.heap.size by omega)]
        exact yZ (by simp)
      have k0:_=some (.string sn:Value):=zc hu 0
      have k1:_=some (.string sh:Value):=zc hu 1
      have k2:_=some (.string ⟨#[]⟩:Value):=zc hu 2
      have k3:_=some (.bool false:Value):=zc hu 3
      have k4:_=some (.slice none 0 0:Value):=zc hu 4
      have HO4:Hid (((((w2.alloc (.cells #[.string ⟨s2.bs.toArray⟩,.int .i64 s2.e] 117)).alloc (.cells #[.string sn,.string sh,.string ⟨#[]⟩,.bool false,.slice none 0 0] 47)).setCell ⟨w.heap.size,0,none⟩ (.string ⟨s2.bs.toArray⟩)).setCell ⟨w.heap.size,1,none⟩ (.int .i64 s2.e)).ownsRow (w.heap.size+2) 47 5 u7 k (zT (acc.map zp))):=by
        have ht2:zb (fun i=>i=w.heap.size) wr ((((w2.alloc (.cells #[.string ⟨s2.bs.toArray⟩,.int .i64 s2.e] 117)).alloc (.cells #[.string sn,.string sh,.string ⟨#[]⟩,.bool false,.slice none 0 0] 47)).setCell ⟨w.heap.size,0,none⟩ (.string ⟨s2.bs.toArray⟩)).setCell ⟨w.heap.size,1,none⟩ (.int .i64 s2.e)):=((((ht.mono (S':=fun i=>i=w.heap.size) (fun _ _ f=>f.elim)).alloc _).alloc _).setCell (p:=⟨w.heap.size,0,none⟩) (fun _=>rfl) _).setCell (p:=⟨w.heap.size,1,none⟩) (fun _=>rfl) _
        exact zY HO.out (Nat.le_refl _) ht2 (fun j hj he=>by have he':j=w.heap.size:=he; omega)
      have hszr:w.heap.size+2≤((((w2.alloc (.cells #[.string ⟨s2.bs.toArray⟩,.int .i64 s2.e] 117)).alloc (.cells #[.string sn,.string sh,.string ⟨#[]⟩,.bool false,.slice none 0 0] 47)).setCell ⟨w.heap.size,0,none⟩ (.string ⟨s2.bs.toArray⟩)).setCell ⟨w.heap.size,1,none⟩ (.int .i64 s2.e)).heap.size:=by simp; omega
      have HSZ:=z8 hszr
      clear hG4 hu HO HRG HG3 ht hszr
      go_wp2_with (first
        | (at_builtin; refine wpList_append_own _ rfl _ _ 57 rfl (w.heap.size+2) 47 i0 (.agg #[.string ⟨#[]⟩,.string ⟨#[]⟩,.string ⟨#[]⟩,.bool false,.slice none 0 0]) 5 80 Tryz.underlying57 hi hz0 hz1 hz2 rfl (by decide) _ _ _ rfl (HO4.out.alloc _) _ 1 1 [.string sn,.string sh,.string ⟨#[]⟩,.bool false,.slice none 0 0] rfl rfl
            (fun j u hu=>by rw [Addr.add_lit,Nat.zero_add,World.cell?_alloc_at _ _ _ _ (by simp)]; simpa using hu) (by simp [Value.oneCell']) (by unfold maxLen; omega) (by omega) (by simp; omega) ?_
           intro v' w3 hown' hgrow _
           have HO5:=z8 hown'
           have HG5:=z8 hgrow
           clear hown' hgrow)
        | fail)
      go_roundg (n - (k+1))
      case measure=>omega
      case rel =>
        refine ⟨k+1,acc2,s2,by omega,by omega,by go_num,HAC2,?_,(show Hid _ from by rw [HT.out]; exact HO5.out)⟩
        exact z8 (HG4.out.apart (((zb.refl (fun i=>u7.ownBlock=some i) _).alloc _).grown HG5.out (fun k hk _=>hk)) (fun i hi=>(HO4.out.lt i hi).1))
    · have hltz:¬ (k:Int)<(n:Int):=by omega
      obtain rfl:k=n:=by omega
      have hac:=HAC.out
      rw [Nat.sub_self] at hac
      have e1:us.1=sk:=by rw [hac.2.2.2]; rfl
      have e2:us.2=acc:=by rw [hac.2.2.2]; exact List.append_nil acc
      have hge:=HGE.out
      rw [e1,e2] at hge
      have HGE2:=z8 hge
      have HSH2:=HSH
      rw [e2] at HSH2
      have HLA:=z8 hac.1
      obtain ⟨A,c,rfl⟩:=yD (zY (b1:=0) HO.out (Nat.zero_le _) (zb.refl (fun _=>False) wr) (fun _ _ f=>f))
      clear hac e1 e2 HAC hge HGE HSH HLN hi hz0 hz1 hz2
      have HRO:Hid (∀ W,uz W A (acc.map zp)→Calls Tryz.prog 185 #[.slice A k c,.int .i64 1] W (yi (ofE (acc.map zp)) W)):=fun W hr=>JS A c k (acc.map zp) W (by rw [List.length_map]; exact HLA.out.symm) (by omega) hr (fun u hu=>by
        obtain ⟨q,hq,rfl⟩:=List.mem_map.1 hu
        exact jS (HSH2.out q hq)) (fun u hu=>by
        obtain ⟨q,hq,rfl⟩:=List.mem_map.1 hu
        obtain ⟨h1,h2⟩:=HSH2.out q hq
        refine ⟨?_,?_,Nat.zero_le _,fun g hg=>by cases hg⟩
        · show (tx7 q.1).size≤1000
          rw [← zh,yy]
          exact h1
        · show (tx7 q.2).size≤1000
          rw [← zh,yy]
          exact h2)
      have HOU:Hid (∀ W,W.ownsRow (w.heap.size+2) 47 5 (.slice A k c) k (zT (acc.map zp))→k=acc.length∧uz W A (acc.map zp)):=fun W ho=>⟨HLA.out.symm,qr ho (by rw [List.length_map]; exact HLA.out.symm)⟩
      clear HSH2 HLA
      have r0:_=some (.string ⟨sk.bs.toArray⟩:Value):=zc HRG.out.r 0
      have r1:_=some (.int .i64 sk.e:Value):=zc HRG.out.r 1
      have rf:=xB HRG.out.r
      obtain ⟨tb,te⟩:=sk
      obtain ⟨⟨t2,e2⟩,L2⟩:=g
      dsimp only at *
      by_cases h0:te=0
      case neg =>
        have hz:(te == 0)=false:=by simpa using h0
        have hz':(te != 0)=true:=by simpa using h0
        have hge:=HGE2.out
        rw [Z4 h0] at hge
        obtain ⟨h1,rfl⟩:=Prod.mk.inj hge
        obtain ⟨rfl,rfl⟩:=St.mk.inj h1
        have q0:_=some (.string ⟨#[]⟩:Value):=zc HRG.out.z 0
        have q1:_=some (.int .i64 0:Value):=zc HRG.out.z 1
        have qf:=xB HRG.out.z
        have hg2:=HRG.out.setZ (.string ⟨t2.toArray⟩) (.int .i64 e2)
        have y0:_=some (.string ⟨t2.toArray⟩:Value):=zc hg2.z 0
        have y1:_=some (.int .i64 e2:Value):=zc hg2.z 1
        have HFIN:Hid (xQ w (⟨t2,e2⟩,L2) (.returned (.tuple #[.agg #[.string ⟨t2.toArray⟩,.int .i64 e2],.slice none 0 0])) ((wr.setCell ⟨w.heap.size+1,0,none⟩ (.string ⟨t2.toArray⟩)).setCell ⟨w.heap.size+1,1,none⟩ (.int .i64 e2))):=⟨⟨none,0,0,rfl,fun h=>absurd h h0⟩,hg2.t.below (fun _ f=>f.elim)⟩
        clear hg2 h0 hge h1 HGE2 HRG HRO HOU HO
        go_wp2
        refine bodyPost_ret (v:=.tuple #[.agg #[.string ⟨t2.toArray⟩,.int .i64 e2],.slice none 0 0]) ?_ rfl HFIN.out
        simp [results,Tryz.results91,go_sem,y0,y1]
      subst h0
      have hge:=HGE2.out
      obtain ⟨h1,rfl⟩:=Prod.mk.inj hge
      have HFL:Hid (∀ W,Calls Tryz.prog 182 #[.agg #[.string ⟨tb.toArray⟩,.int .i64 0],.int .i64 (ofE (L2.map zp))] W fun e w'=>e=.returned (.agg #[.string ⟨t2.toArray⟩,.int .i64 e2])∧zb (fun _=>False) W w'):=fun W=>by
        have:=xh ⟨tb,0⟩ (ofE (L2.map zp)) W
        rw [← h1] at this
        exact this
      clear hge h1 HGE2 r0 r1 rf
      have r1:_=some (.int .i64 0:Value):=zc HRG.out.r 1
      have HXS:Hid (zT (L2.map zp)=zT (L2.map zp)):=rfl
      clear HXS
      generalize ofE (L2.map zp)=oe at *
      go_wp2_with fail
      clear r1
      refine zE (by kernel_rfl) (YC8 (.agg #[.string ⟨tb.toArray⟩,.int .i64 0]) (.slice A k c) oe (.agg #[.string ⟨t2.toArray⟩,.int .i64 e2])) (GC8 w #[.string ⟨tb.toArray⟩,.int .i64 0] #[.string ⟨t2.toArray⟩,.int .i64 e2] #[.string ⟨#[]⟩,.int .i64 0] (.slice A k c) k (zT (L2.map zp))) ?F ?hF (by kernel_rfl) (by kernel_rfl) ⟨HRG.out.still ((zb.refl _ _).drew),zY HO.out (Nat.le_refl _) ((zb.refl (fun _=>False) _).drew) (fun _ _ f=>f),fun h=>by cases h⟩ ?step ?fin
      case hF =>
        intro x
        simp only [List.map_cons,List.map_nil,xc,Act.put,List.setIfInBounds_toArray,List.set_cons_zero,List.set_cons_succ,Nat.zero_add,Nat.reduceAdd]
        exact rfl
      case step =>
        refine ⟨?_,?_,?_,?_,?_,?_,trivial⟩
        all_goals intro L x W hL hd hG hdep K hK
        · have hg:=hG.ahead 0 (by omega) hL
          have r0:W.cell? ⟨w.heap.size,0,none⟩=some (.string ⟨tb.toArray⟩):=zc hg.r 0
          have r1:W.cell? ⟨w.heap.size,1,none⟩=some (.int .i64 0):=zc hg.r 1
          clear hdep hg
          go_simp
          exact hK _ _ rfl (hG.quiet 0 (by omega) hL (Below.refl _ _)) (fun _ _ h=>h)
        · clear hdep
          go_simp
          exact hK _ _ rfl (hG.quiet 1 (by omega) hL (Below.refl _ _)) (fun _ _ h=>h)
        · clear hdep
          go_simp
          exact hK _ _ rfl (hG.quiet 2 (by omega) hL (Below.refl _ _)) (fun _ _ h=>h)
        · have h1:x 1=_:=hdep 1 rfl
          have h2:x 2=_:=hdep 2 rfl
          clear hdep
          simp only [h1,h2] at hK
          go_simp
          refine (HRO.out W (HOU.out W hG.2.1).2).mono ?_
          rintro e W' ⟨rfl,hb⟩
          exact hK _ _ rfl (hG.quiet 3 (by omega) hL hb) (fun j _ h=>Vi j _ h)
        · have h0:x 0=_:=hdep 0 rfl
          have h3:x 3=_:=hdep 3 rfl
          clear hdep
          simp only [h0,h3] at hK
          go_simp
          refine (HFL.out W).mono ?_
          rintro e W' ⟨rfl,ht⟩
          exact hK _ _ rfl (hG.quiet 4 (by omega) hL (ht.below (fun _ f=>f.elim))) (fun j _ h=>Vi j _ h)
        · have h4:x 4=.agg #[.string ⟨t2.toArray⟩,.int .i64 e2]:=hdep 4 rfl
          have hd0:∀ j,j<5→L j=true:=fun j hj=>hd j (by rcases j with _ | _ | _ | _ | _ | j <;> first | rfl | omega)
          refine zJ (by rfl) 117 (.tmp 2) (.tmp 46) rfl w.heap.size rfl _ h4 _ _ hG.1.r jA (yM rfl rfl) (by simp [Value.oneCell']) ?_
          exact hK _ _ trivial (hG.stored hd0) (fun j _ h=>Vi j _ h)
      case fin =>
        intro L x W8 hall hG hY
        have hg:=hG.1
        rw [hall 5 (by decide),if_pos rfl] at hg
        have HG8:=z8 hg
        have HO8:=z8 hG.2.1
        have r0:_=some (.string ⟨t2.toArray⟩:Value):=zc hg.r 0
        have r1:_=some (.int .i64 e2:Value):=zc hg.r 1
        clear hY hG hg hall HFL HRO HRG HO
        by_cases h0:e2=0
        · have hz':(e2 != 0)=false:=by simpa using h0
          subst h0
          have q0:_=some (.string ⟨#[]⟩:Value):=zc HG8.out.z 0
          have q1:_=some (.int .i64 0:Value):=zc HG8.out.z 1
          have qf:=xB HG8.out.z
          have hg2:=HG8.out.setZ (.string ⟨t2.toArray⟩) (.int .i64 0)
          have y0:_=some (.string ⟨t2.toArray⟩:Value):=zc hg2.z 0
          have y1:_=some (.int .i64 0:Value):=zc hg2.z 1
          have HFIN:Hid (xQ w (⟨t2,0⟩,L2) (.returned (.tuple #[.agg #[.string ⟨t2.toArray⟩,.int .i64 0],.slice A k c])) ((W8.setCell ⟨w.heap.size+1,0,none⟩ (.string ⟨t2.toArray⟩)).setCell ⟨w.heap.size+1,1,none⟩ (.int .i64 0))):=⟨⟨A,k,c,rfl,fun _=>HOU.out _ (zY HO8.out (Nat.le_refl _) (((zb.refl (fun i=>i=w.heap.size+1) W8).setCell (p:=⟨w.heap.size+1,0,none⟩) (fun _=>rfl) _).setCell (p:=⟨w.heap.size+1,1,none⟩) (fun _=>rfl) _) (fun j hj he=>by have he':j=w.heap.size+1:=he; omega))⟩,hg2.t.below (fun _ f=>f.elim)⟩
          clear hg2 HG8 HO8 HOU
          go_wp2
          refine bodyPost_ret (v:=.tuple #[.agg #[.string ⟨t2.toArray⟩,.int .i64 0],.slice A k c]) ?_ rfl HFIN.out
          simp [results,Tryz.results91,go_sem,y0,y1]
        · have hz':(e2 != 0)=true:=by simpa using h0
          have q0:_=some (.string ⟨#[]⟩:Value):=zc HG8.out.z 0
          have q1:_=some (.int .i64 0:Value):=zc HG8.out.z 1
          have qf:=xB HG8.out.z
          have hg2:=HG8.out.setZ (.string ⟨t2.toArray⟩) (.int .i64 e2)
          have y0:_=some (.string ⟨t2.toArray⟩:Value):=zc hg2.z 0
          have y1:_=some (.int .i64 e2:Value):=zc hg2.z 1
          have HFIN:Hid (xQ w (⟨t2,e2⟩,L2) (.returned (.tuple #[.agg #[.string ⟨t2.toArray⟩,.int .i64 e2],.slice none 0 0])) ((W8.setCell ⟨w.heap.size+1,0,none⟩ (.string ⟨t2.toArray⟩)).setCell ⟨w.heap.size+1,1,none⟩ (.int .i64 e2))):=⟨⟨none,0,0,rfl,fun h=>absurd h h0⟩,hg2.t.below (fun _ f=>f.elim)⟩
          clear hg2 HG8 HO8 HOU h0
          go_wp2
          refine bodyPost_ret (v:=.tuple #[.agg #[.string ⟨t2.toArray⟩,.int .i64 e2],.slice none 0 0]) ?_ rfl HFIN.out
          simp [results,Tryz.results91,go_sem,y0,y1]

theorem fT (st:St) (w:World) (hok:Ok st) (hl:st.bs.length≤1000) :
    Calls Tryz.prog 91 #[xS st,.int .i64 1] w (xQ w (uc st)):=by
  by_cases h:(zt st 2).1.e=0
  · exact XD st w hok hl h
  · exact Yk st w hok hl h

def YRr8 (B:Nat) (te:Int):Nat→Value→World→Prop
 | 0,v,_=>v=.pointer (some ⟨B,1,none⟩)
 | 1,v,_=>v=.int .i64 te
 | 2,v,_=>v=.slice none 0 0
 | _,v,_=>v=.int .i64 te
def Y6 (w:World) (r:Int×zq) (e:Ending) (w':World):Prop :=
 (∃ A n c,e=.returned (.tuple #[.slice A n c,.int .i64 r.1])∧(r.1=0→n=r.2.length∧uz w' A (r.2.map zp)))∧Below w.heap.size w w'

set_option maxRecDepth 100000 in
theorem VF (bs:List UInt8) (w:World) (hl:bs.length≤1000) :
  Calls Tryz.prog 30 #[.string ⟨bs.toArray⟩] w (Y6 w (vw bs)):=by
 cases bs with
 | nil =>
  have HF:Hid (Y6 w (vw []) (.returned (.tuple #[.slice none 0 0,.int .i64 2])) w):=⟨⟨none,0,0,rfl,fun h=>by cases h⟩,Below.refl _ _⟩
  generalize vw []=r at *
  show Calls Tryz.prog 30 #[.string ⟨#[]⟩] w (Y6 w r)
  go_enter Tryz.func30,Tryz.ntmps30
  go_wp2
  go_ret2
  exact HF.out
 | cons b t =>
  have HGU:Hid (∀ W,Calls Tryz.prog 91 #[.agg #[.string ⟨t.toArray⟩,.int .i64 0],.int .i64 1] W (xQ W (uc ⟨t,0⟩))):=fun W=>fT ⟨t,0⟩ W (fun h=>absurd rfl h) (by simp at hl; show t.length≤1000; omega)
  have HRE:Hid (vw (b::t)=if b=1 then QL (uc ⟨t,0⟩) else (6,[])):=fj b t
  obtain ⟨out,hout⟩:∃ out,out=vw (b::t):=⟨_,rfl⟩
  rw [← hout] at HRE ⊢
  clear hout
  go_enter Tryz.func30,Tryz.ntmps30
  have hx:(⟨(b::t).toArray⟩:ByteArray).extract 1 (t.length+1)=⟨t.toArray⟩:=by
   apply ByteArray.ext
   simp
  have hidx:((⟨(b::t).toArray⟩:ByteArray)[0]'(by show 0<(b::t).toArray.size; simp)).toNat=b.toNat:=rfl
  by_cases hb:b=1
  ·
   have hre:=HRE.out
   rw [if_pos hb] at hre
   have HR2:=z8 hre
   subst hb
   have hb1:UInt8.toNat 1=1:=rfl
   clear hre HRE
   go_wp2_with fail
   with_reducible refine (HGU.out w).mono ?_
   rintro e w1 ⟨⟨A,n,c,rfl,hu⟩,hb⟩
   have HU:=z8 hu
   have HB:=z8 hb
   clear hu hb HGU
   generalize uc ⟨t,0⟩=g at *
   obtain ⟨⟨tb,te⟩,L⟩:=g
   unfold xS
   dsimp only at *
   by_cases h0:te=0
   case neg =>
    have hz:(te == 0)=false:=by simpa using h0
    have hz':(te != 0)=true:=by simpa using h0
    have hre:=HR2.out
    unfold QL at hre
    rw [if_pos h0] at hre
    have HF:Hid (∀ W,Below (w1.alloc (.cells #[.string ⟨tb.toArray⟩,.int .i64 te] 117)).heap.size (w1.alloc (.cells #[.string ⟨tb.toArray⟩,.int .i64 te] 117)) W→Y6 w out (.returned (.tuple #[.slice none 0 0,.int .i64 te])) W):=fun W hbw=>by
     rw [hre]
     exact ⟨⟨none,0,0,rfl,fun h=>absurd h h0⟩,z7 HB.out (z7 (za (Below.refl w1.heap.size w1) _) hbw)⟩
    have K1:(w1.alloc (.cells #[.string ⟨tb.toArray⟩,.int .i64 te] 117)).cell? ⟨w1.heap.size,1,none⟩=some (.int .i64 te):=by rw [World.cell?_alloc_at _ _ _ _ rfl]; rfl
    have LT:w1.heap.size<(w1.alloc (.cells #[.string ⟨tb.toArray⟩,.int .i64 te] 117)).heap.size:=by simp
    clear hre HR2 HU HB h0
    go_wp2_with fail
    generalize w1.alloc (.cells #[.string ⟨tb.toArray⟩,.int .i64 te] 117)=w2 at *
    refine zE (by kernel_rfl) (YRr8 w1.heap.size te) (fun _ W=>Below w2.heap.size w2 W) ?F1 ?hF1 (by kernel_rfl) (by kernel_rfl) (zy (Below.refl _ _)) ?step1 ?fin1
    case hF1 =>
     intro x
     simp only [List.map_cons,List.map_nil,xc,Act.put,List.setIfInBounds_toArray,List.set_cons_zero,List.set_cons_succ,Nat.zero_add,Nat.reduceAdd]
     exact rfl
    case step1 =>
     refine ⟨?_,?_,?_,?_,trivial⟩
     all_goals intro L x W hL hd hW hdep K hK
     ·
      clear hdep
      go_simp
      exact hK _ _ rfl hW (fun _ _ h=>h)
     ·
      have h0:x 0=_:=hdep 0 rfl
      have k1:=(hW.cell (p:=⟨w1.heap.size,1,none⟩) LT).trans K1
      clear hdep
      simp only [h0] at hK
      go_simp
      exact hK _ _ rfl hW (fun _ _ h=>h)
     ·
      clear hdep
      go_simp
      exact hK _ _ rfl hW (fun _ _ h=>h)
     ·
      have h1:x 1=_:=hdep 1 rfl
      clear hdep
      simp only [h1] at hK
      go_simp
      exact hK _ _ rfl hW (fun _ _ h=>h)
    case fin1 =>
     intro L x W hall hW hY
     have h2:x 2=.slice none 0 0:=hY 2 (by decide)
     have h3:x 3=.int .i64 te:=hY 3 (by decide)
     have HFW:=z8 (HF.out W hW)
     clear hY hW HF
     rw [h2,h3]
     go_wp2
     go_ret2
     exact HFW.out
   subst h0
   cases tb with
   | nil =>
    have hre:out=(0,L):=HR2.out
    have HF:Hid (∀ W,Below w1.heap.size w1 W→Y6 w out (.returned (.tuple #[.slice A n c,.int .i64 0])) W):=fun W hbw=>by
     rw [hre]
     exact ⟨⟨A,n,c,rfl,fun _=>⟨(HU.out rfl).1,(HU.out rfl).2.later hbw⟩⟩,z7 HB.out hbw⟩
    have HB1:=z8 (HF.out _ (za (Below.refl w1.heap.size w1) (.cells #[.string ⟨#[]⟩,.int .i64 0] 117)))
    clear hre HR2 HU HB HF
    have hnil:(⟨([]:List UInt8).toArray⟩:ByteArray)=⟨#[]⟩:=rfl
    rw [hnil]
    go_wp2
    go_ret2
    exact HB1.out
   | cons x r =>
    have hre:out=(3,[]):=HR2.out
    have HF:Hid (∀ W,Below (w1.alloc (.cells #[.string ⟨(x::r).toArray⟩,.int .i64 3] 117)).heap.size (w1.alloc (.cells #[.string ⟨(x::r).toArray⟩,.int .i64 3] 117)) W→Y6 w out (.returned (.tuple #[.slice none 0 0,.int .i64 3])) W):=fun W hbw=>by
     rw [hre]
     exact ⟨⟨none,0,0,rfl,fun h=>by cases h⟩,z7 HB.out (z7 (za (Below.refl w1.heap.size w1) _) hbw)⟩
    have K1:(w1.alloc (.cells #[.string ⟨(x::r).toArray⟩,.int .i64 3] 117)).cell? ⟨w1.heap.size,1,none⟩=some (.int .i64 3):=by rw [World.cell?_alloc_at _ _ _ _ rfl]; rfl
    have LT:w1.heap.size<(w1.alloc (.cells #[.string ⟨(x::r).toArray⟩,.int .i64 3] 117)).heap.size:=by simp
    clear hre HR2 HU HB
    go_wp2_with fail
    generalize w1.alloc (.cells #[.string ⟨(x::r).toArray⟩,.int .i64 3] 117)=w2 at *
    refine zE (by kernel_rfl) (YRr8 w1.heap.size 3) (fun _ W=>Below w2.heap.size w2 W) ?F2 ?hF2 (by kernel_rfl) (by kernel_rfl) (zy (Below.refl _ _)) ?step2 ?Uz
    case hF2 =>
     intro x
     simp only [List.map_cons,List.map_nil,xc,Act.put,List.setIfInBounds_toArray,List.set_cons_zero,List.set_cons_succ,Nat.zero_add,Nat.reduceAdd]
     exact rfl
    case step2 =>
     refine ⟨?_,?_,?_,?_,trivial⟩
     all_goals intro L x W hL hd hW hdep K hK
     ·
      clear hdep
      go_simp
      exact hK _ _ rfl hW (fun _ _ h=>h)
     ·
      have h0:x 0=_:=hdep 0 rfl
      have k1:=(hW.cell (p:=⟨w1.heap.size,1,none⟩) LT).trans K1
      clear hdep
      simp only [h0] at hK
      go_simp
      exact hK _ _ rfl hW (fun _ _ h=>h)
     ·
      clear hdep
      go_simp
      exact hK _ _ rfl hW (fun _ _ h=>h)
     ·
      have h1:x 1=_:=hdep 1 rfl
      clear hdep
      simp only [h1] at hK
      go_simp
      exact hK _ _ rfl hW (fun _ _ h=>h)
    case Uz =>
     intro L x W hall hW hY
     have h2:x 2=.slice none 0 0:=hY 2 (by decide)
     have h3:x 3=.int .i64 3:=hY 3 (by decide)
     have HFW:=z8 (HF.out W hW)
     clear hY hW HF
     rw [h2,h3]
     go_wp2
     go_ret2
     exact HFW.out
  ·
   have hre:=HRE.out
   rw [if_neg hb] at hre
   have hb2:((b.toNat:Int) != 1)=true:=by
    have:b.toNat≠1:=fun h=>hb (UInt8.toNat_inj.1 h)
    simp; omega
   have HF:Hid (Y6 w out (.returned (.tuple #[.slice none 0 0,.int .i64 6])) w):=by
    rw [hre]
    exact ⟨⟨none,0,0,rfl,fun h=>by cases h⟩,Below.refl _ _⟩
   clear hre HRE HGU
   go_wp2
   go_ret2
   exact HF.out
end Go.Proofs.YthmomkjingcbiaaGreatDoor
