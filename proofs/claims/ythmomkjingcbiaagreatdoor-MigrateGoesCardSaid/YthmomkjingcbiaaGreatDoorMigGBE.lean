/-
  The texts that the laws of this seat share, part 5: what the code and the document's own answers tell, walked function by function.
  Conditions: each theorem's own.
-/
import Derived.WideKeyEntry
import Derived.Test.YthmomkjingcbiaaGreatDoorMigGBD
set_option maxHeartbeats 16000000
namespace Go.Proofs.YthmomkjingcbiaaGreatDoor
open Go.RowKit Go.Maps Go.Sort Go.Shelf

theorem JN:∀ m:List UInt8,le (val m) m.length=m
 | []=>rfl
 | b::l=>by
  have hb:b.toNat<256:=b.toNat_lt
  rw [val,List.length_cons,le_cons,show (b.toNat+256 * val l) / 256=val l by omega,JN l]
  congr 1
  apply UInt8.toNat_inj.1
  simp only [UInt8.toNat_ofNat']
  omega

def vo (st:St):List UInt8×List UInt8:=if (fa 1 st).1.e=0 then ((zJ st 65535).2,(zJ (zJ st 65535).1 65535).2) else ([],[])
def yc:Nat→St→St×zg
 | 0,st=>(st,[])
 | k+1,st=>((yc k (fa 1 st).1).1,vo st::(yc k (fa 1 st).1).2)
def jc (st:St):St×zg :=
 if 12<(yi st 2).2 then (yr (yi st 2).1 7,[])
 else (yr (yc (yi st 2).2 (yi st 2).1).1 (ofE ((yc (yi st 2).2 (yi st 2).1).2.map zq)),(yc (yi st 2).2 (yi st 2).1).2)
def JY (r:St×zg):Int×zg:=if r.1.e≠0 then (r.1.e,[]) else if 0<r.1.bs.length then (3,[]) else (0,r.2)
def uL:List UInt8→Int×zg
 | []=>(2,[])
 | b::r=>if b=1 then JY (jc ⟨r,0⟩) else (6,[])

theorem ZJ (b:UInt8) (r:List UInt8):uL (b::r)=if b=1 then JY (jc ⟨r,0⟩) else (6,[]):=rfl
def jO (q:List UInt8×List UInt8):List UInt8:=qY 1 (zq q)
def FN (L:zg):List UInt8:=le 1 1++(le L.length 2++L.flatMap jO)

/-! ### The code's way -/
def xb (st:St):St:=if (yi st 1).2=1 then (yi st 1).1 else yr (yi st 1).1 6
def xC (st:St):St×Nat:=if 12<(yi st 2).2 then (yr (yi st 2).1 7,0) else yi st 2
def Vf (r:St×zg):Int×zg:=if r.1.e≠0 then (r.1.e,[]) else if ofE (r.2.map zq)≠0 then (ofE (r.2.map zq),[]) else if Jc r.1≠0 then (Jc r.1,[]) else (0,r.2)

theorem UP {st:St} {e:Int} (h:st.e≠0):yr st e=st:=by unfold yr; rw [if_pos (.inr h)]
theorem UO (st:St):yr st 0=st:=by unfold yr; rw [if_pos (.inl rfl)]
theorem xo {st:St} {e:Int} (h:(yr st e).e=0):e=0∧st.e=0∧yr st e=st:=by
 by_cases he:e=0
 ·
  subst he
  rw [UO] at h ⊢
  exact ⟨rfl,h,rfl⟩
 ·
  unfold yr at h
  by_cases hs:st.e=0
  ·
   rw [if_neg (by simp [he,hs])] at h
   exact absurd h he
  ·
   rw [if_pos (.inr hs)] at h
   exact absurd h hs
theorem Vz {st:St} (n:Nat) (h:st.e≠0):(yI st n).1.e=st.e:=by
 unfold yI
 split
 ·
  rw [UP h]
 ·
  rfl
theorem Qy {st:St} (n:Nat) (h:st.e≠0):(yi st n).1.e=st.e:=Vz n h
theorem UN (st:St):fa 1 st=(yr (zJ (zJ st 65535).1 65535).1 (yM 1 (Qx (zJ st 65535).2 (zJ (zJ st 65535).1 65535).2)),Qx (zJ st 65535).2 (zJ (zJ st 65535).1 65535).2):=by
 unfold fa VP
 rw [if_pos rfl]
theorem fT (st:St):(fa 1 st).1.bs.length≤st.bs.length:=by
 rw [UN]
 exact Nat.le_trans (xB _ _) (Nat.le_trans (vF _ _) (vF _ _))
theorem xr:∀ (k:Nat) (st:St),(yc k st).2.length=k
 | 0,_=>rfl
 | k+1,st=>by
  show (vo st::(yc k (fa 1 st).1).2).length=_
  rw [List.length_cons,xr k]

/-! ### What was read is what is written -/
theorem ZC {st:St} {n:Nat} (h:(yI st n).1.e=0):st.e=0∧(yI st n).2.length=n∧st.bs=(yI st n).2++(yI st n).1.bs:=by
 unfold yI at h ⊢
 by_cases hl:st.bs.length<n
 ·
  rw [if_pos hl] at h
  obtain ⟨h1,_⟩:=xo h
  cases h1
 ·
  rw [if_neg hl] at h ⊢
  exact ⟨h,by simp only [List.length_take]; omega,(List.take_append_drop n st.bs).symm⟩
theorem XA {st:St} {n:Nat} (h:(yi st n).1.e=0):st.e=0∧st.bs=le (yi st n).2 n++(yi st n).1.bs:=by
 obtain ⟨h1,h2,h3⟩:=ZC (st:=st) (n:=n) h
 refine ⟨h1,?_⟩
 have:=JN (yI st n).2
 rw [h2] at this
 show st.bs=le (val (yI st n).2) n++(yI st n).1.bs
 rw [this]
 exact h3
theorem ZA {st:St} {m:Int} (h:(zJ st m).1.e=0):st.e=0∧st.bs=yj (mk6 (zJ st m).2)++(zJ st m).1.bs:=by
 obtain ⟨h1,h2,h3⟩:=ZC (st:=(zC st m).1) (n:=(zC st m).2) h
 have h4:(zC st m)=((yi st 2).1,(yi st 2).2):=by
  unfold zC at h1 ⊢
  split at h1
  ·
   obtain ⟨h5,_⟩:=xo h1
   cases h5
  ·
   rename_i hc
   rw [if_neg hc]
 have h5:(yi st 2).1.e=0:=by rw [h4] at h1; exact h1
 obtain ⟨h6,h7⟩:=XA h5
 refine ⟨h6,?_⟩
 have e1:(zC st m).1=(yi st 2).1:=by rw [h4]
 have e2:(zC st m).2=(yi st 2).2:=by rw [h4]
 show st.bs=yj (mk6 (yI (zC st m).1 (zC st m).2).2)++(yI (zC st m).1 (zC st m).2).1.bs
 have h8:(mk6 (yI (zC st m).1 (zC st m).2).2).data.toList=(yI (zC st m).1 (zC st m).2).2:=by simp [mk6]
 unfold yj
 rw [mk6_size,h8,h2,e2,h7,List.append_assoc,← e1]
 rw [e2] at h3
 rw [← h3]
theorem QN {st:St} (h:(fa 1 st).1.e=0):st.e=0∧yM 1 (zq (vo st))=0∧st.bs=jO (vo st)++(fa 1 st).1.bs:=by
 have ht:vo st=((zJ st 65535).2,(zJ (zJ st 65535).1 65535).2):=by unfold vo; rw [if_pos h]
 rw [UN] at h
 obtain ⟨h1,h2,h3⟩:=xo h
 obtain ⟨h4,h5⟩:=ZA h2
 obtain ⟨h6,h7⟩:=ZA h4
 rw [ht]
 refine ⟨h6,h1,?_⟩
 rw [UN]
 dsimp only
 rw [h3]
 show st.bs=(yj (mk6 (zJ st 65535).2)++yj (mk6 (zJ (zJ st 65535).1 65535).2)++[])++_
 rw [h7,List.append_nil,List.append_assoc,← h5]
theorem fj:∀ (k:Nat) {st:St},(yc k st).1.e=0→st.e=0∧(∀ q∈(yc k st).2,yM 1 (zq q)=0)∧st.bs=(yc k st).2.flatMap jO++(yc k st).1.bs
 | 0,st,h=>⟨h,(fun q hq=>by cases hq),by simp [yc]⟩
 | k+1,st,h=>by
  obtain ⟨h1,h2,h3⟩:=fj k (st:=(fa 1 st).1) h
  obtain ⟨h4,h5,h6⟩:=QN h1
  refine ⟨h4,fun q hq=>?_,?_⟩
  ·
   rcases List.mem_cons.1 hq with rfl | hq
   ·
    exact h5
   ·
    exact h2 q hq
  ·
   show st.bs=(vo st::(yc k (fa 1 st).1).2).flatMap jO++(yc k (fa 1 st).1).1.bs
   rw [List.flatMap_cons,List.append_assoc,← h3]
   exact h6
theorem Ql {st:St} (h:(jc st).1.e=0):st.e=0∧(∀ q∈(jc st).2,yM 1 (zq q)=0)∧ofE ((jc st).2.map zq)=0∧st.bs=le (jc st).2.length 2++((jc st).2.flatMap jO++(jc st).1.bs):=by
 unfold jc at h ⊢
 by_cases hc:12<(yi st 2).2
 ·
  rw [if_pos hc] at h
  obtain ⟨h1,_⟩:=xo h
  cases h1
 ·
  rw [if_neg hc] at h ⊢
  dsimp only at h ⊢
  obtain ⟨h1,h2,h3⟩:=xo h
  obtain ⟨h4,h5,h6⟩:=fj _ h2
  obtain ⟨h7,h8⟩:=XA h4
  refine ⟨h7,h5,h1,?_⟩
  rw [h3,xr,← h6]
  exact h8
theorem Xs {bs:List UInt8} (h:(uL bs).1=0):(∀ q∈(uL bs).2,yM 1 (zq q)=0)∧ofE ((uL bs).2.map zq)=0∧FN (uL bs).2=bs:=by
 cases bs with
 | nil=>cases h
 | cons b r =>
  rw [ZJ] at h ⊢
  by_cases hb:b=1
  ·
   rw [if_pos hb] at h ⊢
   unfold JY at h ⊢
   by_cases he:(jc ⟨r,0⟩).1.e≠0
   ·
    rw [if_pos he] at h
    exact absurd h he
   ·
    rw [if_neg he] at h ⊢
    by_cases hl:0<(jc ⟨r,0⟩).1.bs.length
    ·
     rw [if_pos hl] at h
     cases h
    ·
     rw [if_neg hl]
     obtain ⟨_,h2,h3,h4⟩:=Ql (st:=⟨r,0⟩) (by simpa using he)
     refine ⟨h2,h3,?_⟩
     have h5:(jc ⟨r,0⟩).1.bs=[]:=List.eq_nil_of_length_eq_zero (by omega)
     rw [h5,List.append_nil] at h4
     unfold FN
     dsimp only at h4 ⊢
     rw [← h4,hb]
     rfl
  ·
   rw [if_neg hb] at h
   cases h

/-! ### What is written is read -/
theorem Ys {q:List UInt8×List UInt8} (h:yM 1 (zq q)=0):(jO q).length≤28:=by
 obtain ⟨hl,_⟩:=qv h
 have h1:=hl.nm
 have h2:=hl.hs
 show (yj (zq q).nm++yj (zq q).hs++[]).length≤28
 rw [List.append_nil,List.length_append,yV,yV]
 omega
theorem uY:∀ {L:zg},(∀ q∈L,yM 1 (zq q)=0)→(L.flatMap jO).length≤28 * L.length
 | [],_=>Nat.le_refl _
 | q::L,h=>by
  have h1:=Ys (h q (List.mem_cons_self ..))
  have h2:=uY (L:=L) (fun x hx=>h x (List.mem_cons_of_mem _ hx))
  rw [List.flatMap_cons,List.length_append,List.length_cons]
  omega

structure May8 (l:List Us):Prop where
 all:∀ q∈qW l,yM 1 (zq q)=0
 of:ofE ((qW l).map zq)=0
 few:(qW l).length≤12
theorem fu:∀ (L:zg),qW (L.map zq)=L
 | []=>rfl
 | q::L=>by
  show ((zq q).nm.data.toList,(zq q).hs.data.toList)::qW (L.map zq)=_
  rw [fu L]
  unfold zq
  dsimp only
  rw [yv,yv]

/-! ### The code's way is the document's -/
theorem Qp (bs:List UInt8):Vf (yc (xC (xb ⟨bs,0⟩)).2 (xC (xb ⟨bs,0⟩)).1)=uL bs:=by
 have hend:∀ (st:St),st.e=0→Jc st=if 0<st.bs.length then 3 else 0:=fun st h=>by unfold Jc; rw [h]
 have hstop:∀ (st:St) (e:Int),st.e=e→e≠0→st.bs=[]→Vf (yc (xC st).2 (xC st).1)=(e,[]):=fun st e h1 h2 h3=>by
  have hn:(yi st 2).1.e=e∧(yi st 2).2=0:=by
   have:=Qy 2 (st:=st) (by rw [h1]; exact h2)
   refine ⟨by rw [this,h1],?_⟩
   unfold yi yI
   rw [if_pos (by rw [h3]; decide)]
   rfl
  have hc:xC st=yi st 2:=by unfold xC; rw [if_neg (by omega)]
  rw [hc,hn.2]
  show Vf ((yi st 2).1,[])=_
  unfold Vf
  rw [if_pos (by show (yi st 2).1.e≠0; rw [hn.1]; exact h2)]
  show ((yi st 2).1.e,_)=_
  rw [hn.1]
 cases bs with
 | nil=>exact hstop _ 2 rfl (by decide) rfl
 | cons b r =>
  have hnum:yi ⟨b::r,0⟩ 1=(⟨r,0⟩,b.toNat):=by
   unfold yi yI
   rw [if_neg (by simp)]
   simp [val]
  rw [ZJ]
  by_cases hb:b=1
  ·
   subst hb
   rw [if_pos rfl]
   have hs:xb ⟨1::r,0⟩=⟨r,0⟩:=by unfold xb; rw [hnum]; rfl
   rw [hs]
   unfold jc xC
   by_cases hc:12<(yi ⟨r,0⟩ 2).2
   ·
    rw [if_pos hc,if_pos hc]
    have h7:(yr (yi ⟨r,0⟩ 2).1 7).e≠0:=fun h=>by
     obtain ⟨h1,_⟩:=xo h
     cases h1
    show Vf (yr (yi ⟨r,0⟩ 2).1 7,[])=_
    unfold Vf JY
    rw [if_pos h7,if_pos h7]
   ·
    rw [if_neg hc,if_neg hc]
    generalize yc (yi ⟨r,0⟩ 2).2 (yi ⟨r,0⟩ 2).1=q
    unfold Vf JY
    by_cases he:q.1.e=0
    ·
     rw [if_neg (by simpa using he),hend q.1 he]
     by_cases ho:ofE (q.2.map zq)=0
     ·
      rw [if_neg (by simpa using ho),ho]
      dsimp only
      rw [UO]
      by_cases hl:0<q.1.bs.length
      ·
       simp [hl,he]
      ·
       simp [hl,he]
     ·
      rw [if_pos ho]
      dsimp only
      have:(yr q.1 (ofE (q.2.map zq))).e=ofE (q.2.map zq):=by
       unfold yr
       rw [if_neg (by simp [ho,he])]
      rw [this,if_pos ho]
    ·
     rw [if_pos he]
     dsimp only
     rw [UP he,if_pos he]
  ·
   rw [if_neg hb]
   have hs:xb ⟨b::r,0⟩=⟨[],6⟩:=by
    unfold xb
    rw [hnum]
    dsimp only
    rw [if_neg (show ¬ b.toNat=1 from fun h=>hb (UInt8.toNat_inj.1 h))]
    rfl
   rw [hs]
   exact hstop _ 6 rfl (by decide) rfl

theorem Xm (st:St):(xb st).bs.length≤st.bs.length:=by
  unfold xb
  split
  · exact vK st 1
  · exact Nat.le_trans (xB _ _) (vK st 1)
theorem Ud (st:St):(xC st).1.bs.length≤st.bs.length:=by
  unfold xC
  split
  · exact Nat.le_trans (xB _ _) (vK st 2)
  · exact vK st 2
theorem QZ (st:St):(xC st).2≤12:=by
  unfold xC
  split
  · exact Nat.zero_le _
  · omega

set_option maxRecDepth 100000 in
theorem Yl (B:Nat) (st:St) (w:World) (h:Rdr w B st) (hl:st.bs.length≤1000) :
    Calls Tryz.prog 176 #[.pointer (some ⟨B,0,none⟩)] w (Void w B (xb st)):=by
  have HN:=za (VI B st w h (by omega))
  obtain ⟨s0,hs0⟩:∃ s0,s0=xb st:=⟨_,rfl⟩
  have HS:Hid (s0=if (yi st 1).2=1 then (yi st 1).1 else yr (yi st 1).1 6):=hs0
  rw [← hs0]
  clear hs0 h hl
  generalize (yi st 1).2=x at *
  generalize (yi st 1).1=s1 at *
  go_enter Tryz.func176,Tryz.ntmps176
  go_wp2_with fail
  with_reducible refine HN.out.mono ?_
  rintro e w1 ⟨rfl,hd⟩
  have HD:=za hd
  clear hd HN
  by_cases hx:x=1
  · have hs:=HS.out
    rw [if_pos hx] at hs
    subst hx
    subst hs
    clear HS
    go_wp2
    go_end0
    exact ⟨rfl,HD.out⟩
  · have hs:=HS.out
    rw [if_neg hx] at hs
    have hz:((x:Int) != 1)=true:=by simp; omega
    have HF:=za (vP B s1 6 w1 HD.out.rdr)
    rw [← hs] at HF
    clear hs HS
    go_wp2_with fail
    with_reducible refine HF.out.mono ?_
    rintro e w2 ⟨rfl,hd2⟩
    have HD2:=za (HD.out.next hd2)
    clear hd2 HF HD
    go_wp2
    go_end0
    exact ⟨rfl,HD2.out⟩

set_option maxRecDepth 100000 in
theorem Ve (B:Nat) (st:St) (w:World) (h:Rdr w B st) (hl:st.bs.length≤1000) :
    Calls Tryz.prog 178 #[.pointer (some ⟨B,0,none⟩)] w fun e w'=>e=.returned (.int .i64 (xC st).2)∧Did w B (xC st).1 w':=by
  have HN:=za (ZE B st w h (by omega))
  have hx2:(yi st 2).2<65536:=fD st 2
  obtain ⟨c,hc⟩:∃ c,c=xC st:=⟨_,rfl⟩
  have HS:Hid (c=if 12<(yi st 2).2 then (yr (yi st 2).1 7,0) else ((yi st 2).1,(yi st 2).2)):=hc
  rw [← hc]
  clear hc h hl
  generalize (yi st 2).2=x at *
  generalize (yi st 2).1=s1 at *
  obtain ⟨s2,n⟩:=c
  go_enter Tryz.func178,Tryz.ntmps178
  go_wp2_with fail
  with_reducible refine HN.out.mono ?_
  rintro e w1 ⟨rfl,hd⟩
  have HD:=za hd
  clear hd HN
  by_cases hx:12<x
  · have hs:=HS.out
    rw [if_pos hx] at hs
    have hz:(x:Int) > 12:=by omega
    obtain ⟨h1,h2⟩:=Prod.mk.inj hs
    have HF:=za (vP B s1 7 w1 HD.out.rdr)
    rw [← h1] at HF
    subst h2
    clear hs HS h1
    go_wp2_with fail
    with_reducible refine HF.out.mono ?_
    rintro e w2 ⟨rfl,hd2⟩
    have HD2:=za (HD.out.next hd2)
    clear hd2 HF HD
    go_wp2
    go_ret
    exact ⟨rfl,HD2.out⟩
  · have hs:=HS.out
    rw [if_neg hx] at hs
    have hz:¬ (x:Int) > 12:=by omega
    obtain ⟨h1,h2⟩:=Prod.mk.inj hs
    subst h1
    subst h2
    clear hs HS
    go_wp2
    go_ret
    exact ⟨rfl,HD.out⟩

theorem QO (B:Nat) (st:St) (w:World) (h:Rdr w B st) (hl:st.bs.length≤1000) (hm:vQ w) (hBg:B≠0) :
    Calls Tryz.prog 236 #[.pointer (some ⟨B,0,none⟩),.int .i64 1] w fun e w'=>e=.returned (zq (vo st)).v∧Did w B (fa 1 st).1 w':=by
  have l1:=vF st 65535
  have f1:=uw st 65535
  have hg:=UN st
  have ht:vo st=if (fa 1 st).1.e=0 then ((zJ st 65535).2,(zJ (zJ st 65535).1 65535).2) else ([],[]):=rfl
  rw [ht,hg]
  clear ht hg
  rcases h1:zJ st 65535 with ⟨s1,nm⟩
  rw [h1] at l1 f1
  have f2:=uw s1 65535
  dsimp only at l1 f1 ⊢
  rcases h2:zJ s1 65535 with ⟨s2,hs⟩
  rw [h2] at f2
  dsimp only at f2 ⊢
  refine (JU B st w h (by omega) hm hBg nm hs s1 s2 _ h1 h2 rfl (by omega) (by omega)).mono fun e w' ⟨he,hd⟩=>⟨?_,hd⟩
  rw [he]
  split <;> rfl

theorem fi {w:World} {B b0:Nat} {st:St} {v:Value} {n:Nat} {xs:List Value} (hr:Rdr w B st) (h:w.ownsRow b0 47 5 v n xs):v.ownBlock≠some B:=by
  obtain ⟨u,hb,_⟩:=hr
  rcases h.2 with ⟨rfl,_⟩ | ⟨g,cap,cur,rfl,_,hg,_⟩
  · simp [Value.ownBlock]
  · intro he
    have:g=B:=by simpa [Value.ownBlock] using he
    subst this
    have:=hb.symm.trans hg
    simp at this
theorem Rdr.beside {w w':World} {B b0:Nat} {st:St} {v:Value} {n:Nat} {xs:List Value} (hr:Rdr w B st) (ho:w.ownsRow b0 47 5 v n xs) (ht:zc (fun i=>v.ownBlock=some i) w w'):Rdr w' B st:=by
  have hne:=fi hr ho
  have hB:=hr.lt
  obtain ⟨u,hu,hru⟩:=hr
  refine ⟨u,(ht.block B hB hne).trans hu,?_⟩
  rcases hru with h0 | ⟨g,off,cc,rfl,h1,h2,h3,h4,hbk,h5⟩
  · exact .inl h0
  · have hgn:v.ownBlock≠some g:=by
      obtain ⟨cur,fr,hcur⟩:=hbk
      intro he
      rcases ho.2 with ⟨hv,_⟩ | ⟨g',cap',cur',hv,_,hg',_⟩
      · rw [hv] at he; simp [Value.ownBlock] at he
      · rw [hv] at he
        have:g'=g:=by simpa [Value.ownBlock] using he
        subst this
        have:=hcur.symm.trans hg'
        simp at this
    exact .inr ⟨g,off,cc,rfl,h1,h2,Nat.lt_of_lt_of_le h3 ht.size,h4,hbk.keep ht hgn,fun j hj=>(ht.cell (p:=⟨g,off+j,none⟩) h3 hgn).trans (h5 j hj)⟩

theorem Vu (l:List Us) (u:Us):yt (l++[u])=yt l++u.cells.toList:=by
  unfold yt
  rw [List.flatMap_append]
  simp

def Fr (w:World) (B:Nat) (n:Nat) (st:St) (L:zg) (e:Ending) (w':World):Prop :=
  ∃ v,e=.returned v∧w'.ownsRow w.heap.size 47 5 v n (yt (L.map zq))∧Did w B st w'

set_option maxRecDepth 100000 in
theorem Xa (B n:Nat) (st:St) (w:World) (h:Rdr w B st) (hl:st.bs.length≤1000) (hn:n≤12) (hm:vQ w) (hBg:B≠0) :
    Calls Tryz.prog 177 #[.pointer (some ⟨B,0,none⟩),.int .i64 n] w (Fr w B n (yc n st).1 (yc n st).2):=by
  obtain ⟨i0,hi,hz0,hz1,hz2⟩:=info_parts XQ
  have hB:=h.lt
  have HR:=za (Did.refl h)
  have HM:Hid (∀ W s,Did w B s W→vQ W):=fun W s hd=>by
    obtain ⟨hlt,m,hcm⟩:=hm
    exact ⟨Nat.lt_of_lt_of_le hlt hd.2.size,m,(hd.2.cell (p:=⟨0,0,none⟩) hlt (fun e=>hBg e.symm)).trans hcm⟩
  have HBG:=za hBg
  obtain ⟨us,hus⟩:∃ us,us=yc n st:=⟨_,rfl⟩
  rw [← hus]
  have HUS:Hid (∃ acc:zg,acc.length=0∧st.bs.length≤1000∧us=((yc (n - 0) st).1,acc++(yc (n - 0) st).2)):=⟨[],rfl,hl,hus⟩
  have HLN:Hid (us.2.length=n):=by rw [hus]; exact xr n st
  clear hus h hl hm hBg
  go_enter Tryz.func177,Tryz.ntmps177
  go_wp2
  go_loopg [5,7] n (fun gg s5 s7 wr=>∃ (k:Nat) (acc:zg) (s1:St),k≤n∧n - k≤gg∧s7=.int .i64 k∧Hid (acc.length=k∧s1.bs.length≤1000∧us=((yc (n - k) s1).1,acc++(yc (n - k) s1).2))∧Hid (Did w B s1 wr)∧Hid (wr.ownsRow w.heap.size 47 5 s5 k (yt (acc.map zq))))
  case atStart =>
    obtain ⟨acc,h0,h1,h2⟩:=HUS.out
    have:acc=[]:=List.eq_nil_of_length_eq_zero h0
    subst this
    exact ⟨0,[],st,Nat.zero_le _,by omega,rfl,⟨rfl,h1,h2⟩,HR.out,World.ownsRow_nil _ _ _ _⟩
  case round =>
    clear HUS HR
    obtain ⟨k,acc,s1,hk,hg,rfl,HAC,HD,HO⟩:=hrel
    by_cases hlt:k<n
    · have hltz:(k:Int)<(n:Int):=by omega
      have hac:=HAC.out
      rw [show n - k=(n - (k+1))+1 by omega] at hac
      have HAC2:Hid ((acc++[vo s1]).length=k+1∧(fa 1 s1).1.bs.length≤1000∧us=((yc (n - (k+1)) (fa 1 s1).1).1,(acc++[vo s1])++(yc (n - (k+1)) (fa 1 s1).1).2)) :=
        ⟨by rw [List.length_append,hac.1]; rfl,Nat.le_trans (fT s1) hac.2.1,by rw [List.append_assoc]; exact hac.2.2⟩
      have HG:Hid (Calls Tryz.prog 236 #[.pointer (some ⟨B,0,none⟩),.int .i64 1] wr fun e w'=>e=.returned (.agg #[.string (tx7 (vo s1).1),.string (tx7 (vo s1).2),.string ⟨#[]⟩,.bool false,.slice none 0 0])∧Did wr B (fa 1 s1).1 w'):=QO B s1 wr HD.out.1 hac.2.1 (HM.out wr s1 HD.out) HBG.out
      have HT:Hid (yt ((acc++[vo s1]).map zq)=yt (acc.map zq)++[.string (tx7 (vo s1).1),.string (tx7 (vo s1).2),.string ⟨#[]⟩,.bool false,.slice none 0 0]):=by
        show _=_
        rw [List.map_append]
        exact Vu _ _
      clear hac HAC
      generalize acc++[vo s1]=acc2 at *
      generalize (fa 1 s1).1=s2 at *
      generalize tx7 (vo s1).1=sn at *
      generalize tx7 (vo s1).2=sh at *
      go_wp2_with fail
      with_reducible refine HG.out.mono ?_
      rintro e w2 ⟨rfl,hd⟩
      have HD2:=za (HD.out.next hd)
      have HO2:=za (vI (b1:=w.heap.size) HO.out (Nat.le_refl _) hd.2 (fun j hj he=>by have he':j=B:=he; omega))
      have hsz:=HD2.out.2.size
      clear hd HG HD HO
      go_wp2_with (first
        | (at_builtin; refine wpList_append_own _ rfl _ _ 57 rfl w.heap.size 47 i0 (.agg #[.string ⟨#[]⟩,.string ⟨#[]⟩,.string ⟨#[]⟩,.bool false,.slice none 0 0]) 5 80 Tryz.underlying57 hi hz0 hz1 hz2 rfl (by decide) _ _ _ rfl (HO2.out.alloc _) ⟨w2.heap.size,0,none⟩ 1 1 [.string sn,.string sh,.string ⟨#[]⟩,.bool false,.slice none 0 0] rfl rfl
            (fun j u hu=>by rw [Addr.add_lit,Nat.zero_add,World.cell?_alloc_at _ _ _ _ rfl]; simpa using hu) (by simp [Value.oneCell']) (by unfold maxLen; omega) (by omega) (by simp; omega) ?_
           intro v' w3 hown' hgrow _
           have HO3:=za hown'
           have HG3:=za hgrow
           clear hown' hgrow)
        | fail)
      go_roundg (n - (k+1))
      case measure=>omega
      case rel =>
        refine ⟨k+1,acc2,s2,by omega,by omega,by go_num,HAC2,?_,(show Hid _ from by rw [HT.out]; exact HO3.out)⟩
        have ht0:zc (fun i=>u5.ownBlock=some i) w2 w3:=(((zc.refl _ w2).alloc _).grown HG3.out (fun k hk _=>hk))
        exact za ⟨HD2.out.1.beside HO2.out ht0,HD2.out.2.next ht0 (fun i hi he=>by have:=(HO2.out.lt i he).1; omega)⟩
    · have hltz:¬ (k:Int)<(n:Int):=by omega
      obtain rfl:k=n:=by omega
      have hac:=HAC.out
      rw [Nat.sub_self] at hac
      have e1:us.1=s1:=by rw [hac.2.2]; rfl
      have e2:us.2=acc:=by rw [hac.2.2]; exact List.append_nil acc
      have HF:Hid (Fr w B k us.1 us.2 (.returned u5) wr):=⟨u5,rfl,by rw [e2]; exact HO.out,by rw [e1]; exact HD.out⟩
      clear hac e1 e2 HAC HO HD
      go_wp2
      go_ret
      exact HF.out

def Ft (w:World) (r:Int×zg) (e:Ending) (w':World):Prop :=
 (r.1≠0∧e=.returned (.tuple #[.pointer none,.int .i64 r.1])∧Below w.heap.size w w')∨(r.1=0∧∃ B,e=.returned (.tuple #[.pointer (some ⟨B,0,none⟩),.int .i64 0])∧xL w w' B r.2)

theorem X3 {q:List UInt8×List UInt8} {w:World} (h:q.1.length≤1000∧q.2.length≤1000):(zq q).Ok w:=by
 have s1:(tx7 q.1).size≤1000:=by rw [← zi]; simpa [tx7] using h.1
 have s2:(tx7 q.2).size≤1000:=by rw [← zi]; simpa [tx7] using h.2
 exact { rd:=fun h=>absurd rfl h,nm:=Nat.le_trans s1 (by decide),hs:=Nat.le_trans s2 (by decide),ml:=Nat.zero_le _,nil:=fun _=>rfl,len:=Nat.le_refl _,cap:=Nat.zero_le _,all:=fun s hs=>by cases hs }
theorem Vy (st:St) (h:st.bs.length≤1000):(vo st).1.length≤1000∧(vo st).2.length≤1000:=by
 have l1:=vF st 65535
 have f1:=uw st 65535
 have f2:=uw (zJ st 65535).1 65535
 unfold vo
 split
 ·
  exact ⟨by dsimp only; omega,by dsimp only; omega⟩
 ·
  exact ⟨Nat.zero_le _,Nat.zero_le _⟩
theorem ju:∀ (k:Nat) (st:St),st.bs.length≤1000→∀ q∈(yc k st).2,q.1.length≤1000∧q.2.length≤1000
 | 0,_,_,q,hq=>by cases hq
 | k+1,st,h,q,hq=>by
  rcases List.mem_cons.1 hq with rfl | hq
  ·
   exact Vy st h
  ·
   exact ju k (fa 1 st).1 (Nat.le_trans (fT st) h) q hq

set_option maxRecDepth 100000 in
theorem VH (u:Value) (bs:List UInt8) (w:World) (hu:Rd w u bs) (hl:bs.length≤1000) (hm:vQ w) :
  Calls Tryz.prog 86 #[u] w (Ft w (uL bs)):=by
 rw [← Qp]
 have HOF:=za (of_calls u bs w hu (by omega))
 have HM:=za hm
 have hc:=QZ (xb ⟨bs,0⟩)
 have l1:=Xm ⟨bs,0⟩
 have l2:=Ud (xb ⟨bs,0⟩)
 have l0:(⟨bs,0⟩:St).bs.length≤1000:=hl
 have HSC:Hid (∀ W R,Rdr W R ⟨bs,0⟩→Calls Tryz.prog 176 #[.pointer (some ⟨R,0,none⟩)] W (Void W R (xb ⟨bs,0⟩))):=fun W R hr=>Yl R _ W hr l0
 generalize xb ⟨bs,0⟩=s1 at *
 have HCT:Hid (∀ W R,Rdr W R s1→Calls Tryz.prog 178 #[.pointer (some ⟨R,0,none⟩)] W fun e w'=>e=.returned (.int .i64 (xC s1).2)∧Did W R (xC s1).1 w'):=fun W R hr=>Ve R s1 W hr (by omega)
 generalize hcs:xC s1=cs at *
 obtain ⟨s2,n⟩:=cs
 dsimp only at *
 clear hcs
 have hsh:=ju n s2 (by omega)
 have hln:=xr n s2
 have HUR:Hid (∀ W R,Rdr W R s2→vQ W→R≠0→Calls Tryz.prog 177 #[.pointer (some ⟨R,0,none⟩),.int .i64 n] W (Fr W R n (yc n s2).1 (yc n s2).2)):=fun W R hr hm hR=>Xa R n s2 W hr (by omega) hc hm hR
 generalize hus:yc n s2=us at *
 obtain ⟨s3,L⟩:=us
 dsimp only at *
 clear hus
 have HER:Hid (∀ W R,Rdr W R s3→Calls Tryz.prog 174 #[.pointer (some ⟨R,0,none⟩)] W fun e w'=>e=.returned (.int .i64 s3.e)∧W=w'):=fun W R hr=>ZI R s3 W hr
 have HEN:Hid (∀ W R,Rdr W R s3→Calls Tryz.prog 175 #[.pointer (some ⟨R,0,none⟩)] W fun e w'=>e=.returned (.int .i64 (Jc s3))∧W=w'):=fun W R hr=>Qo R s3 W hr
 have HLB:Hid (n=(L.map zq).length):=by show n=_; rw [List.length_map,hln]
 have HOU:Hid (∀ A c W,Z9 W A (L.map zq)→vQ W→Calls Tryz.prog 83 #[.slice A n c] W fun e w'=>(ofE (L.map zq)≠0∧e=.returned (.tuple #[.pointer none,.int .i64 (ofE (L.map zq))])∧Below W.heap.size W w')∨(ofE (L.map zq)=0∧∃ B,e=.returned (.tuple #[.pointer (some ⟨B,0,none⟩),.int .i64 0])∧xL W w' B L)):=fun A c W hr hm=>by
  have:=JE A c n (L.map zq) W HLB.out (by omega) hr (fun u hu=>by
   obtain ⟨q,hq,rfl⟩:=List.mem_map.1 hu
   exact X3 (hsh q hq)) hm
  rwa [fu] at this
 obtain ⟨out,hout⟩:∃ out,out=Vf (s3,L):=⟨_,rfl⟩
 have HO:Hid (out=if s3.e≠0 then (s3.e,[]) else if ofE (L.map zq)≠0 then (ofE (L.map zq),[]) else if Jc s3≠0 then (Jc s3,[]) else (0,L)):=hout
 rw [← hout]
 obtain ⟨A0,c0,rfl⟩:=hu.shape
 clear hout hu hm hl l0 l1 l2 hsh hln hc
 generalize ofE (L.map zq)=oe at *
 generalize Jc s3=en at *
 go_enter Tryz.func86,Tryz.ntmps86
 go_wp2_with fail
 with_reducible refine HOF.out.mono ?_
 rintro e w1 ⟨R,hR,rfl,hr,ht⟩
 have hb1:=ht.below (fun _ f=>f.elim)
 have HB1:=za hb1
 have HR1:=za (Did.refl hr)
 have hRM:R≠0:=by have:=HM.out.1; omega
 have HRM:=za hRM
 have HM1:Hid (∀ W s,Did w1 R s W→vQ W):=fun W s hd=>by
  obtain ⟨hlt,m,hcm⟩:=HM.out.later HB1.out
  exact ⟨Nat.lt_of_lt_of_le hlt hd.2.size,m,(hd.2.cell (p:=⟨0,0,none⟩) hlt (fun e=>hRM e.symm)).trans hcm⟩
 have HBW:Hid (∀ W s,Did w1 R s W→Below w.heap.size w W):=fun W s hd=>((ht.mono (S':=fun i=>i=R) (fun _ _ f=>f.elim)).next hd.2 (fun _ _ h=>h)).below (fun i hi=>by omega)
 clear hr ht hb1 HOF hRM HM HB1
 go_wp2_with fail
 with_reducible refine (HSC.out w1 R HR1.out.rdr).mono ?_
 rintro e w2 ⟨rfl,hd⟩
 have HR2:=za (HR1.out.next hd)
 clear hd HSC HR1
 go_wp2_with fail
 with_reducible refine (HCT.out w2 R HR2.out.rdr).mono ?_
 rintro e w3 ⟨rfl,hd⟩
 have HR3:=za (HR2.out.next hd)
 clear hd HCT HR2
 go_wp2_with fail
 with_reducible refine (HUR.out w3 R HR3.out.rdr (HM1.out w3 _ HR3.out) HRM.out).mono ?_
 rintro e w4 ⟨v,rfl,ho,hd⟩
 have HR4:=za (HR3.out.next hd)
 obtain ⟨A,c,rfl⟩:=yW (vI (b1:=0) ho (Nat.zero_le _) (zc.refl (fun _=>False) w4) (fun _ _ f=>f))
 have HU4:=za (ZP ho HLB.out)
 clear hd ho HUR HR3
 go_wp2_with fail
 with_reducible refine (HER.out w4 R HR4.out.rdr).mono ?_
 rintro e w5 ⟨rfl,rfl⟩
 clear HER
 by_cases h0:s3.e=0
 case neg =>
  have hz:(s3.e != 0)=true:=by simpa using h0
  have ho:=HO.out
  rw [if_pos h0] at ho
  have HF:Hid (Ft w out (.returned (.tuple #[.pointer none,.int .i64 s3.e])) w4):=.inl ⟨by rw [ho]; exact h0,by rw [ho],HBW.out w4 _ HR4.out⟩
  clear ho HO h0
  go_wp2
  go_ret2
  exact HF.out
 have hz:(s3.e != 0)=false:=by simpa using h0
 have ho:=HO.out
 rw [if_neg (by simpa using h0)] at ho
 have HO2:=za ho
 have HOU4:=za (HOU.out A c w4 HU4.out (HM1.out w4 _ HR4.out))
 clear ho HO h0 HOU
 go_wp2_with fail
 with_reducible refine HOU4.out.mono ?_
 rintro e w6 hcase
 clear HOU4
 rcases hcase with ⟨hne,rfl,hb⟩ | ⟨h0,B,rfl,hown⟩
 ·
  have ho:=HO2.out
  rw [if_pos hne] at ho
  have hx1:(oe != 0)=true:=by simpa using hne
  have HF:Hid (Ft w out (.returned (.tuple #[.pointer none,.int .i64 oe])) w6):=.inl ⟨by rw [ho]; exact hne,by rw [ho],z7 (HBW.out w4 _ HR4.out) hb⟩
  clear ho HO2 hne hb
  go_wp2
  go_ret2
  exact HF.out
 subst h0
 have ho:=HO2.out
 rw [if_neg (by simp)] at ho
 have HO3:=za ho
 have HEN6:=za (HEN.out w6 R (HR4.out.rdr.still (zc.of_below hown.below _)))
 have HOW:Hid (xL w w6 B L):=by
  obtain ⟨p,q0,q1,q2,q3⟩:=hown
  have hb:=HBW.out w4 _ HR4.out
  exact ⟨p,q0,Nat.le_trans hb.size q1,fun b hb'=>Nat.le_trans hb.size (q2 b hb'),z7 hb q3⟩
 clear ho HO2 hown HEN HU4
 go_wp2_with fail
 with_reducible refine HEN6.out.mono ?_
 rintro e w7 ⟨rfl,rfl⟩
 clear HEN6
 by_cases h0:en=0
 ·
  have hz2:(en != 0)=false:=by simpa using h0
  have ho:=HO3.out
  rw [if_neg (by simpa using h0)] at ho
  have HF:Hid (Ft w out (.returned (.tuple #[.pointer (some ⟨B,0,none⟩),.int .i64 0])) w6):=.inr ⟨by rw [ho],B,rfl,by rw [ho]; exact HOW.out⟩
  clear ho HO3 h0
  go_wp2
  go_ret2
  exact HF.out
 ·
  have hz2:(en != 0)=true:=by simpa using h0
  have ho:=HO3.out
  rw [if_pos h0] at ho
  have HF:Hid (Ft w out (.returned (.tuple #[.pointer none,.int .i64 en])) w6):=.inl ⟨by rw [ho]; exact h0,by rw [ho],HOW.out.below⟩
  clear ho HO3 h0
  go_wp2
  go_ret2
  exact HF.out

def Grows8 (w:World) (B:Nat) (bs:List UInt8) (e:Ending) (w':World):Prop:=e=.returned (.pointer (some ⟨B,0,none⟩))∧NW6 w B bs w'
theorem NW6.byte8 {w W:World} {B:Nat} {bs:List UInt8} (xi:Int) (x:Nat) (h:NW6 w B bs W) (ex:xi=x) (hx:x<256) (hr:bs.length≤500000) :
  Calls Tryz.prog 36 #[.pointer (some ⟨B,0,none⟩),.int .u8 xi] W (Grows8 w B (bs++le x 1)):=by
 subst ex
 obtain ⟨hB,⟨v,hw,hv⟩,ht⟩:=h
 exact (jn B v bs x W hw hx (by omega)).mono fun e w' ⟨he,hg⟩=>⟨he,hg.nw6 hB hv ht⟩
theorem NW6.two8 {w W:World} {B:Nat} {bs:List UInt8} (xi:Int) (x:Nat) (h:NW6 w B bs W) (ex:xi=x) (hx:x<65536) (hr:bs.length≤500000) :
  Calls Tryz.prog 37 #[.pointer (some ⟨B,0,none⟩),.int .u16 xi] W (Grows8 w B (bs++le x 2)):=by
 subst ex
 obtain ⟨hB,⟨v,hw,hv⟩,ht⟩:=h
 exact (uf B v bs x W hw hx (by omega)).mono fun e w' ⟨he,hg⟩=>⟨he,hg.nw6 hB hv ht⟩


set_option maxRecDepth 100000 in
theorem bytes8_calls (B:Nat) (p:Option Nat) (L:zg) (w:World) (hd:xg w B p L) (hk:∀ q∈L,yM 1 (zq q)=0) (hm:vQ w) :
  Calls Tryz.prog 13 #[.pointer (some ⟨B,0,none⟩)] w (Fs w (FN L)):=by
 have HAL:=za (Y9 B p L w hd)
 have hfew:=hd.few
 have HALL:=za hd.all
 have HK:=za hk
 have HM:=za hm
 have hbl:∀ k,((L.take k).flatMap jO).length≤28 * 12:=fun k=>by
  have:=uY (L:=L.take k) (fun q hq=>hk q (List.mem_of_mem_take hq))
  have h2:(L.take k).length≤L.length:=by rw [List.length_take]; omega
  omega
 have HBL:=za hbl
 obtain ⟨n,hn⟩:∃ n,n=L.length:=⟨_,rfl⟩
 have HLN:Hid (n=L.length):=hn
 rw [← hn] at hfew
 obtain ⟨out,hout⟩:∃ out,out=FN L:=⟨_,rfl⟩
 have HSH:Hid (out=le 1 1++le n 2++L.flatMap jO):=by show out=_; rw [hout,hn,List.append_assoc]; rfl
 rw [← hout]
 clear hd hk hm hn hbl hout
 go_enter Tryz.func13,Tryz.ntmps13
 go_wp2_with fail
 with_reducible refine HAL.out.mono ?_
 rintro e w1 ⟨v,rfl,hu,hb⟩
 obtain ⟨A,c,rfl⟩:∃ A c,v=.slice A n c:=by
  obtain ⟨A,c,e,_⟩:=Us7.of_users hu
  exact ⟨A,c,by rw [e,← HLN.out]⟩
 have HR:=za (Us7.of_users hu).rd.2
 have HB1:=za hb
 clear hu hb HAL
 have HZ:=za (NW6.zero w1)
 go_wp2_with fail
 with_reducible refine (NW6.byte8 _ 1 HZ.out (by simp) (by omega) (by simp)).mono ?_
 rintro e w2 ⟨rfl,h1⟩
 rw [List.nil_append] at h1
 have H1:=za h1
 clear h1 HZ
 go_wp2_with fail
 with_reducible refine (NW6.two8 _ n H1.out (by go_num) (by omega) (by rw [zZ]; omega)).mono ?_
 rintro e w3 ⟨rfl,h1⟩
 have H2:=za h1
 have hpre:(le 1 1++le n 2).length=3:=by rw [List.length_append,zZ,zZ]
 clear h1 H1
 generalize le 1 1++le n 2=pre at *
 generalize hB:w1.heap.size=BW at *
 have HBW:=za hB
 clear hB
 go_wp2
 go_loopg [6,18] n (fun gg _ s18 wr=>∃ k:Nat,k≤n∧n - k≤gg∧s18=.int .i64 k∧Hid (NW6 w1 BW (pre++(L.take k).flatMap jO) wr))
 case atStart=>exact ⟨0,Nat.zero_le _,by omega,rfl,by show NW6 w1 BW (pre++[]) w3; rw [List.append_nil]; exact H2.out⟩
 case round =>
  clear H2
  obtain ⟨k,hk,hg,rfl,HW⟩:=hrel
  have hbw:=HW.out.2.2
  by_cases hlt:k<n
  ·
   have hltz:(k:Int)<(n:Int):=by omega
   have hkl:k<L.length:=HLN.out ▸ hlt
   have hkm:k<(L.map zq).length:=by rw [List.length_map]; exact hkl
   have hgm:(L.map zq)[k]'hkm=zq L[k]:=List.getElem_map _
   obtain ⟨b,off,rfl,hb,hc⟩:=(HR.out.later hbw) (by intro e; rw [e] at hkm; exact absurd hkm (Nat.not_lt_zero _))
   have hc':=hc k hkm
   rw [hgm] at hc'
   have c0:wr.cell? ⟨b,off+k * 5,none⟩=some (.string (tx7 L[k].1)):=hc' 0 _ rfl
   have c1:wr.cell? ⟨b,off+k * 5+1,none⟩=some (.string (tx7 L[k].2)):=hc' 1 _ rfl
   have c2:wr.cell? ⟨b,off+k * 5+2,none⟩=some (.string ⟨#[]⟩):=hc' 2 _ rfl
   have c3:wr.cell? ⟨b,off+k * 5+3,none⟩=some (.bool false):=hc' 3 _ rfl
   have c4:wr.cell? ⟨b,off+k * 5+4,none⟩=some (.slice none 0 0):=hc' 4 _ rfl
   have hb1:=z8 (Below.refl wr.heap.size wr) (.cells #[.string (tx7 L[k].1),.string (tx7 L[k].2),.string ⟨#[]⟩,.bool false,.slice none 0 0] 47)
   have hq:=HALL.out L[k] (List.getElem_mem hkl)
   have hch:=HK.out L[k] (List.getElem_mem hkl)
   have hlen:(pre++(L.take k).flatMap jO).length≤1000:=by have:=HBL.out k; rw [List.length_append]; omega
   have HP:Hid (Calls Tryz.prog 38 #[.pointer (some ⟨BW,0,none⟩),.int .i64 1,.agg #[.string (tx7 L[k].1),.string (tx7 L[k].2),.string ⟨#[]⟩,.bool false,.slice none 0 0]] (wr.alloc (.cells #[.string (tx7 L[k].1),.string (tx7 L[k].2),.string ⟨#[]⟩,.bool false,.slice none 0 0] 47)) fun e w'=>e=.returned (.bool true)∧NW6 w1 BW (pre++(L.take (k+1)).flatMap jO) w'):=by
    refine (Qs w1 BW _ 1 (zq L[k]) _ (HW.out.below hb1) (Q0 hq) (HM.out.later HB1.out) hlen).mono fun e w' h=>?_
    rcases h with ⟨_,he,hn⟩ | ⟨h0,_⟩
    ·
     refine ⟨he,?_⟩
     rw [List.take_succ_eq_append_getElem hkl,List.flatMap_append,List.flatMap_singleton,← List.append_assoc]
     exact hn
    ·
     exact absurd hch h0
   clear hc hc' hb hb1 hq hch hlen hbw HW hgm
   generalize tx7 L[k].1=sn at *
   generalize tx7 L[k].2=sh at *
   go_wp2_with (go_at_call 38; (with_reducible refine HP.out.mono ?_); rintro e w4 ⟨rfl,h4⟩; have H4:=za h4; clear h4)
   go_roundg (n - (k+1))
   case measure=>omega
   case rel=>exact ⟨k+1,by omega,by omega,by go_num,H4⟩
  ·
   have hltz:¬ (k:Int)<(n:Int):=by omega
   obtain rfl:k=n:=by omega
   have hw:=HW.out
   rw [List.take_of_length_le (by have:=HLN.out; omega),← HSH.out] at hw
   have hol:out.length≤1000000:=by
    have:=HBL.out k
    rw [List.take_of_length_le (by have:=HLN.out; omega)] at this
    rw [HSH.out,List.length_append]
    omega
   have HBY:=za (hw.bytes hol)
   have HBB:=za (z7 HB1.out hw.2.2)
   have hszb:=HBB.out.size
   clear hw hol hbw HW
   go_wp2_with fail
   with_reducible refine HBY.out.mono ?_
   rintro e w5 ⟨v5,rfl,ho,hn,hb⟩
   have HF:Hid (Fs w out (.returned v5) w5):=⟨v5,rfl,ho,fun j hj=>Nat.le_trans hszb (hn j hj),z7 HBB.out hb⟩
   clear ho hn hb HBY
   go_wp2
   go_ret
   exact HF.out

end Go.Proofs.YthmomkjingcbiaaGreatDoor
namespace Go.Proofs.YthmomkjingcbiaaGreatDoor
open Go.Maps

structure zS (L M:zg):Prop where
 rl:yY L
 rm:yY M
 iff:∀ n a,(n,a)∈L↔(a,n)∈M

def XV (L:zg) (a:List UInt8):Bool:=L.any (fun p=>p.2 == a)
def Xw (L:zg) (a:List UInt8):List UInt8:=match L.find? (fun p=>p.2 == a) with | some p=>p.1 | none=>[]

theorem Yq {L:zg} (h:yY L) {n a b:List UInt8} (ha:(n,a)∈L) (hb:(n,b)∈L):a=b:=by
 have h1:=qo h ha
 have h2:=qo h hb
 exact h1.symm.trans h2
theorem xz {L:zg} {n:List UInt8} (h:yb L n=true):(n,yF L n)∈L:=by
 unfold yb at h
 unfold yF
 obtain ⟨p,hp,e⟩:=List.any_eq_true.1 h
 cases hf:L.find? (fun p=>p.1 == n) with
 | none=>exact absurd e (by simpa using List.find?_eq_none.1 hf p hp)
 | some q =>
  have h1:=List.mem_of_find?_eq_some hf
  have h2:=List.find?_some hf
  have:q.1=n:=by simpa using h2
  rw [← this]; exact h1
theorem UE {L:zg} {n a:List UInt8} (h:(n,a)∈L):yb L n=true:=yw.2 ⟨_,h,rfl⟩
theorem yC {L:zg} {n:List UInt8} (h:yb L n=false):yF L n=[]:=by
 unfold yF
 cases hf:L.find? (fun p=>p.1 == n) with
 | none=>rfl
 | some q =>
  have h1:=List.mem_of_find?_eq_some hf
  have h2:=List.find?_some hf
  have:yb L n=true:=yw.2 ⟨q,h1,by simpa using h2⟩
  rw [h] at this; cases this
theorem qM {L:zg} {a:List UInt8} (h:XV L a=true):(Xw L a,a)∈L:=by
 unfold XV at h
 unfold Xw
 obtain ⟨p,hp,e⟩:=List.any_eq_true.1 h
 cases hf:L.find? (fun p=>p.2 == a) with
 | none=>exact absurd e (by simpa using List.find?_eq_none.1 hf p hp)
 | some q =>
  have h1:=List.mem_of_find?_eq_some hf
  have h2:=List.find?_some hf
  have:q.2=a:=by simpa using h2
  rw [← this]; exact h1
theorem qH {L:zg} {n a:List UInt8} (h:(n,a)∈L):XV L a=true:=List.any_eq_true.2 ⟨_,h,by simp⟩
theorem JA {L:zg} {a:List UInt8} (h:XV L a=false):Xw L a=[]:=by
 unfold Xw
 cases hf:L.find? (fun p=>p.2 == a) with
 | none=>rfl
 | some q =>
  have h1:=List.mem_of_find?_eq_some hf
  have h2:=List.find?_some hf
  have:XV L a=true:=List.any_eq_true.2 ⟨q,h1,h2⟩
  rw [h] at this; cases this

theorem xx {L:zg} {k v:List UInt8} {q:List UInt8×List UInt8}:q∈yR L k v↔q=(k,v)∨q∈L∧q.1≠k:=by
 unfold yR
 rw [jh,yn]
theorem FR {L M:zg} (hl:yY L) (hm:yY M) (h:∀ q,q∈L↔q∈M):L=M:=by
 have hnl:L.Nodup:=hl.imp fun {a b} hb e=>by subst e; rw [zn] at hb; cases hb
 have hnm:M.Nodup:=hm.imp fun {a b} hb e=>by subst e; rw [zn] at hb; cases hb
 have hp:L.Perm M:=(List.perm_ext_iff_of_nodup hnl hnm).2 h
 refine List.Perm.eq_of_pairwise (le:=fun (p q:List UInt8×List UInt8)=>bytesBefore p.1 q.1=true) ?_ hl hm hp
 intro a b _ _ h1 h2
 rw [yT h1] at h2; cases h2

section
variable {L M:zg}
theorem zS.nil:zS [] []:=⟨List.Pairwise.nil,List.Pairwise.nil,by simp⟩
theorem zS.length (h:zS L M):M.length=L.length:=by
 have hnl:L.Nodup:=h.rl.imp fun {a b} hb e=>by subst e; rw [zn] at hb; cases hb
 have hnm:M.Nodup:=h.rm.imp fun {a b} hb e=>by subst e; rw [zn] at hb; cases hb
 have hn2:(L.map fun p=>(p.2,p.1)).Nodup:=by
  unfold List.Nodup
  rw [List.pairwise_map]
  refine hnl.imp fun {a b} hb e=>hb ?_
  injection e with e1 e2
  exact Prod.ext e2 e1
 have:(L.map fun p=>(p.2,p.1)).Perm M:=(List.perm_ext_iff_of_nodup hn2 hnm).2 fun q=>by
  rw [List.mem_map]
  constructor
  ·
   rintro ⟨p,hp,rfl⟩
   exact (h.iff p.1 p.2).1 hp
  ·
   intro hq
   exact ⟨(q.2,q.1),(h.iff q.2 q.1).2 hq,rfl⟩
 have:=this.length_eq
 rw [List.length_map] at this
 exact this.symm
theorem zS.has (h:zS L M) (a:List UInt8):yb M a=XV L a:=by
 cases hh:XV L a
 ·
  cases hm:yb M a
  ·
   rfl
  ·
   have:=qH ((h.iff _ _).2 (xz hm))
   rw [hh] at this; cases this
 ·
  exact UE ((h.iff _ _).1 (qM hh))
theorem zS.get (h:zS L M) (a:List UInt8):yF M a=Xw L a:=by
 cases hh:XV L a
 ·
  rw [JA hh,yC (by rw [h.has,hh])]
 ·
  exact qo h.rm ((h.iff _ _).1 (qM hh))
theorem zS.one (h:zS L M) {n k a:List UInt8} (h1:(n,a)∈L) (h2:(k,a)∈L):n=k:=Yq h.rm ((h.iff _ _).1 h1) ((h.iff _ _).1 h2)
theorem zS.own (h:zS L M) {n a:List UInt8} (h1:(n,a)∈L):Xw L a=n:=h.one (qM (qH h1)) h1
theorem zS.del (h:zS L M) {n:List UInt8} (hn:yb L n=true):zS (xH L n) (xH M (yF L n)):=by
 have hm:=xz hn
 refine ⟨uz h.rl n,uz h.rm _,fun k b=>?_⟩
 rw [yn,yn]
 constructor
 ·
  rintro ⟨h1,h2⟩
  refine ⟨(h.iff _ _).1 h1,fun e=>h2 ?_⟩
  have e':b=yF L n:=e
  subst e'
  exact h.one h1 hm
 ·
  rintro ⟨h1,h2⟩
  have h1':=(h.iff _ _).2 h1
  refine ⟨h1',fun e=>h2 ?_⟩
  have e':k=n:=e
  subst e'
  exact Yq h.rl h1' hm
theorem zS.put (h:zS L M) {n a:List UInt8} (hn:yb L n=false) (ha:XV L a=false):zS (yR L n a) (yR M a n):=by
 refine ⟨xO h.rl n a,xO h.rm a n,fun k b=>?_⟩
 rw [xx,xx]
 constructor
 ·
  rintro (e | ⟨h1,h2⟩)
  ·
   injection e with e1 e2; subst e1; subst e2; exact .inl rfl
  ·
   refine .inr ⟨(h.iff _ _).1 h1,fun e=>?_⟩
   have e':b=a:=e
   subst e'
   have:=qH h1
   rw [ha] at this; cases this
 ·
  rintro (e | ⟨h1,h2⟩)
  ·
   injection e with e1 e2; subst e1; subst e2; exact .inl rfl
  ·
   have h1':=(h.iff _ _).2 h1
   refine .inr ⟨h1',fun e=>?_⟩
   have e':k=n:=e
   subst e'
   have:=UE h1'
   rw [hn] at this; cases this
end

theorem YL (L:zg) (n:List UInt8):yb (xH L n) n=false:=by
 cases h:yb (xH L n) n
 ·
  rfl
 ·
  obtain ⟨p,hp,e⟩:=yw.1 h
  exact absurd e (yn.1 hp).2
theorem U0 {L:zg} {n k:List UInt8} (h:k≠n):yb (xH L n) k=yb L k:=by
 cases hh:yb L k
 ·
  cases hd:yb (xH L n) k
  ·
   rfl
  ·
   obtain ⟨p,hp,e⟩:=yw.1 hd
   have:yb L k=true:=yw.2 ⟨p,(yn.1 hp).1,e⟩
   rw [hh] at this; cases this
 ·
  obtain ⟨p,hp,e⟩:=yw.1 hh
  exact yw.2 ⟨p,yn.2 ⟨hp,fun e'=>h (e.symm.trans e')⟩,e⟩
theorem Jv {L:zg} (h:yY L) (n a:List UInt8):yR (xH L n) n a=yR L n a:=by
 refine FR (xO (uz h n) n a) (xO h n a) fun q=>?_
 rw [xx,xx,yn]
 constructor
 ·
  rintro (e | ⟨⟨h1,_⟩,h2⟩)
  ·
   exact .inl e
  ·
   exact .inr ⟨h1,h2⟩
 ·
  rintro (e | ⟨h1,h2⟩)
  ·
   exact .inl e
  ·
   exact .inr ⟨⟨h1,h2⟩,h2⟩
theorem get_put {L:zg} (h:yY L) (n a:List UInt8):yF (yR L n a) n=a:=qo (xO h n a) (xx.2 (.inl rfl))
end Go.Proofs.YthmomkjingcbiaaGreatDoor
namespace Go.Proofs.YthmomkjingcbiaaGreatDoor
open Go.RowKit Go.Maps

theorem V1 (x:UInt8):qP (qP x)=qP x:=by
 cases h:inR 65 90 x with
 | false=>rw [uE h,uE h]
 | true =>
  obtain ⟨e,h1,h2⟩:=V0 h
  refine uE ?_
  unfold inR
  have:¬ (qP x).toNat≤90:=by omega
  rw [decide_eq_false this,Bool.and_false]
theorem jF (l:List UInt8):zD (zD l)=zD l:=by
 unfold zD
 rw [List.map_map]
 exact List.map_congr_left fun x _=>V1 x
theorem QD {l m:List UInt8} (h:zD l=zD m):yS l=yS m:=by
 unfold yS X0
 have hl:l.length=m.length:=by rw [← vx l,h,vx]
 rw [h,hl]
theorem jA (l:List UInt8):yS (zD l)=yS l:=QD (jF l)
theorem fI {l:List UInt8} (h:yS l=true):l.length≤20:=by
 unfold yS at h
 simp only [Bool.and_eq_true,decide_eq_true_eq] at h
 exact h.1.1.1
theorem JL:yS []=false:=by decide
theorem JI {n:List UInt8} (h:zf n=true):n.length≤12:=by
 unfold zf xF at h
 simp only [Bool.and_eq_true,decide_eq_true_eq] at h
 exact h.1.1.2.1

def May9 (x:List UInt8×List UInt8):Prop:=zf x.1=true∧yS x.2=true∧zD x.2=x.2
theorem May9.of {n m:List UInt8} (hn:zf n=true) (hm:yS m=true):May9 (n,zD m):=⟨hn,by rw [jA]; exact hm,jF m⟩

structure vn (w:World) (p:Option Nat) (L:zg):Prop where
 nil:p=none→L=[]
 map:∀ b,p=some b→qx w b L
theorem vn.turns {w w':World} {p:Option Nat} {L:zg} {S:Nat→Prop} (h:vn w p L) (ht:zc S w w') (hp:∀ b,p=some b→¬ S b):vn w' p L :=
 ⟨h.nil,fun b hb=>(h.map b hb).kept (ht.block b (h.map b hb).lt (hp b hb))⟩

section
variable {w:World} {p:Option Nat} {L:zg}
theorem look9 (h:vn w p L) (s:ByteArray) (hs:s.size≤maxLen) :
  (Instr.lookup 76 (.map p) (.string s) true).run Tryz.prog w=.ok (.tuple #[.string (tx7 (yF L s.data.toList)),.bool (yb L s.data.toList)]) w:=by
 cases p with
 | none =>
  have hL:=h.nil rfl
  subst hL
  have:=Maps.look_nil (P:=Tryz.prog) (w:=w) (t:=76) true vN Tryz.underlying76 (Yd w) (UI s hs)
  exact this
 | some b =>
  obtain ⟨v,ps,hrun,hv⟩:=(h.map b rfl).look_ok vN Tryz.underlying76 (Yd w) (plainElem_string (H:=Unit) Tryz.underlying9 (s:=⟨#[]⟩) (by decide)) (UI s hs)
  obtain ⟨c,rfl,hc,_⟩:=plainElem_string_inv Tryz.underlying9 hv
  rw [hrun,UU]
  have e:(jH L).atKey (.string s.data.toList) (.lit (.string []))=.lit (.string (yF L s.data.toList)):=Ua L _
  have hc':(jH L).atKey (.string s.data.toList) (.lit (.string []))=.lit (.string c.data.toList):=congrArg Prod.fst hc
  rw [e] at hc'
  have:yF L s.data.toList=c.data.toList:=by simpa using hc'
  rw [this,jV]
theorem drop9 (h:vn w p L) (s:ByteArray) (hs:s.size≤maxLen) (ty:TypeId) :
  ∃ w',(Builtin.delete_ #[76,9] ty #[.map p,.string s]).run Tryz.prog w=.ok (.tuple #[]) w'∧vn w' p (xH L s.data.toList)∧zc (fun i=>p=some i) w w':=by
 cases p with
 | none =>
  have hL:=h.nil rfl
  subst hL
  exact ⟨w,Maps.drop_nil vN Tryz.underlying76 (UI s hs) ty,⟨fun _=>rfl,(fun _ h=>nomatch h)⟩,zc.refl _ w⟩
 | some b =>
  obtain ⟨w',hrun,hown,ht⟩:=(h.map b rfl).drop vN Tryz.underlying76 (UI s hs) ty
  rw [UV] at hown
  exact ⟨w',hrun,⟨(fun h=>nomatch h),fun b' hb'=>by cases hb'; exact qx.of hown⟩,(zc.refl _ w).grown ht.grown (fun k hk _=>hk.symm ▸ rfl)⟩
theorem nilmap9 (w:World) (p:Option Nat):(binOp .eql 76 (.map p) (.map none)).run Tryz.prog w=.ok (.bool p.isNone) w :=
 run_eql_map_nil_sl w 76 _ _ p Tryz.underlying76
end

def Vo (W:World) (b:Nat) (L':zg) (st val:Value):Prop :=
 ∃ o,W.heap[b]? = some o∧∀ W2:World,W2.heap[b]? = some o→∃ W3,(Instr.entryStore 76 (.map (some b)) st val).run Tryz.prog W2=.ok () W3∧qx W3 b L'∧W2.mapTurned W3 b
theorem half9 {W:World} {b:Nat} {L:zg} (h:qx W b L) (hf:L.length≤1000) (k v:ByteArray) (hk:k.size≤maxLen) (hv:v.size≤maxLen) :
  ∃ (v0:Value) (st:Nat) (W1:World),(Instr.mapEntry 76 (.map (some b)) (.string k)).run Tryz.prog W=.ok (.tuple #[v0,.int .i64 (st:Int)]) W1∧Vo W1 b (yR L k.data.toList v.data.toList) (.int .i64 (st:Int)) (.string v)∧W.mapTurned W1 b:=by
 obtain ⟨w',hrun,hown,_⟩:=h.store vN Tryz.underlying76 (Nat.lt_of_le_of_lt hf (by decide)) (UI k hk) (plainElem_string (H:=Unit) Tryz.underlying9 hv)
 rw [YY] at hown
 have hM:=qx.of hown
 obtain ⟨es,clock,hb,F,_,_⟩:=h
 obtain ⟨v0,st,es1,clock1,h1,_,h3⟩:=WideElems.entry_then_store (t:=76) (WideMaps.string_law Tryz.underlying9) Tryz.underlying76 (z:=.string ⟨#[]⟩) (fun u=>Yd u) hb F (UI k hk)
 refine ⟨v0,st,_,h1,⟨_,ChangeMaps.heap_setBlock_same hb _,fun W2 hW2=>?_⟩,⟨es,clock,es1,clock1,hb,rfl⟩⟩
 obtain ⟨es',clock',r1,r2⟩:=h3 W2 (.string v) hW2
 rw [hrun] at r2
 injection r2 with _ r2
 refine ⟨_,r1,hM.kept ?_,⟨es1,clock1,es',clock',hW2,rfl⟩⟩
 rw [ChangeMaps.heap_setBlock_same hW2,r2,ChangeMaps.heap_setBlock_same hb]
theorem Vo.kept {W W':World} {b:Nat} {L':zg} {st val:Value} (h:Vo W b L' st val) (hb:W'.heap[b]? = W.heap[b]?):Vo W' b L' st val:=by
 obtain ⟨o,h1,h2⟩:=h
 exact ⟨o,hb.trans h1,h2⟩

structure va (w:World) (B:Nat) (p q:Option Nat) (L M:zg):Prop where
 blk:w.heap[B]? = some (.cells #[.map p,.map q] 164 (0,0))
 mapp:vn w p L
 mapq:vn w q M
 both:p.isSome=q.isSome
 apt:∀ b c,p=some b→q=some c→b≠c
 mir:zS L M
 few:L.length≤100
 all:∀ x∈L,May9 x

section
variable {w w':World} {B:Nat} {p q:Option Nat} {L M:zg}
theorem va.lt (h:va w B p q L M):B<w.heap.size:=(Array.getElem?_eq_some_iff.1 h.blk).1
theorem va.plt (h:va w B p q L M):∀ b,p=some b→b<w.heap.size:=fun b hb=>(h.mapp.map b hb).lt
theorem va.qlt (h:va w B p q L M):∀ b,q=some b→b<w.heap.size:=fun b hb=>(h.mapq.map b hb).lt
theorem va.cell0 (h:va w B p q L M):w.cell? ⟨B,0,none⟩=some (.map p):=by simp [World.cell?,h.blk]
theorem va.cell1 (h:va w B p q L M):w.cell? ⟨B,1,none⟩=some (.map q):=by simp [World.cell?,h.blk]
theorem va.frozen0 (h:va w B p q L M):w.frozen? ⟨B,0,none⟩=false:=by simp [World.frozen?,h.blk]
theorem va.frozen1 (h:va w B p q L M):w.frozen? ⟨B,1,none⟩=false:=by simp [World.frozen?,h.blk]
theorem vw {b:Nat} {L:zg} {c:Array Value} {T:TypeId} {fr:Nat×Nat} (hm:qx w b L) (hB:w.heap[B]? = some (.cells c T fr)):b≠B:=fun e=>by
 obtain ⟨es,clock,h1,_⟩:=hm
 subst e
 rw [hB] at h1
 cases h1
theorem va.pne (h:va w B p q L M):∀ b,p=some b→b≠B:=fun b hb=>vw (h.mapp.map b hb) h.blk
theorem va.qne (h:va w B p q L M):∀ b,q=some b→b≠B:=fun b hb=>vw (h.mapq.map b hb) h.blk
theorem va.turns {S:Nat→Prop} (h:va w B p q L M) (ht:zc S w w') (hB:¬ S B) (hp:∀ b,p=some b→¬ S b) (hq:∀ b,q=some b→¬ S b):va w' B p q L M :=
 ⟨(ht.block B h.lt hB).trans h.blk,h.mapp.turns ht hp,h.mapq.turns ht hq,h.both,h.apt,h.mir,h.few,h.all⟩
theorem va.later (h:va w B p q L M) (hb:Below w.heap.size w w'):va w' B p q L M:=h.turns (zc.of_below hb (fun _=>False)) (fun f=>f) (fun _ _ f=>f) (fun _ _ f=>f)
theorem va.rise (h:va w B p q L M):yY L:=h.mir.rl
end

def Um (B:Nat) (p q:Option Nat) (w w':World):Prop:=zc (fun i=>i=B∨p=some i∨q=some i) w w'
def vD (w:World) (B:Nat) (p q:Option Nat) (L':zg) (w':World):Prop :=
 ∃ p' q' M',va w' B p' q' L' M'∧(∀ b,p'=some b→p=some b∨w.heap.size≤b)∧(∀ b,q'=some b→q=some b∨w.heap.size≤b)∧Um B p q w w'
theorem vD.still {w w':World} {B:Nat} {p q:Option Nat} {L M:zg} (h:va w B p q L M) (hb:Below w.heap.size w w'):vD w B p q L w' :=
 ⟨p,q,M,h.later hb,fun _ e=>.inl e,fun _ e=>.inl e,zc.of_below hb _⟩
theorem vD.ahead {w w1 w':World} {B:Nat} {p q:Option Nat} {L':zg} (hb:Below w.heap.size w w1) (h:vD w1 B p q L' w'):vD w B p q L' w':=by
 obtain ⟨p',q',M',hd,hp,hq,ht⟩:=h
 exact ⟨p',q',M',hd,fun b e=>(hp b e).imp id (fun h=>Nat.le_trans hb.size h),fun b e=>(hq b e).imp id (fun h=>Nat.le_trans hb.size h),(zc.of_below hb _).next ht (fun i _ h=>h)⟩

set_option maxRecDepth 100000 in
theorem Qz (w:World):Calls Tryz.prog 63 #[] w fun e w'=>e=.returned (.pointer (some ⟨w.heap.size,0,none⟩))∧w'=w.alloc (.cells #[.map none,.map none] 164):=by
 go_enter Tryz.func63,Tryz.ntmps63
 go_wp2
 go_ret
 exact ⟨rfl,rfl⟩
theorem idx9_new (w:World):va (w.alloc (.cells #[.map none,.map none] 164)) w.heap.size none none [] [] :=
 ⟨(MapKept.heap_alloc w _).1,⟨fun _=>rfl,(fun _ h=>nomatch h)⟩,⟨fun _=>rfl,(fun _ h=>nomatch h)⟩,rfl,(fun _ _ h=>nomatch h),zS.nil,by simp,(fun _ h=>nomatch h)⟩

set_option maxRecDepth 100000 in
theorem JD (B:Nat) (p q:Option Nat) (L M:zg) (s:ByteArray) (w:World) (h:va w B p q L M) (hs:s.size≤maxLen) :
  Calls Tryz.prog 131 #[.pointer (some ⟨B,0,none⟩),.string s] w fun e w'=>e=.returned (.tuple #[.string (tx7 (yF L s.data.toList)),.bool (yb L s.data.toList)])∧w'=w:=by
 have hc:=h.cell0
 have hl:=look9 h.mapp s hs
 generalize yb L s.data.toList=r at *
 generalize tx7 (yF L s.data.toList)=g at *
 clear h hs
 go_enter Tryz.func131,Tryz.ntmps131
 go_wp2
 go_ret2
 exact ⟨rfl,rfl⟩

theorem qy.move9 {cs:List Nat} {St St':Nat→World→Prop} {L:Nat→Bool} {W W':World} (h:qy cs St L W) (q i:Nat) (hq:q<cs.length) (hi:cs.getD q 0=i) (hL:L i=false) (hp:q=0∨L (cs.getD (q - 1) 0)=true)
  (hnd:(List.range cs.length).all (fun r=>r == q || cs.getD r 0 != i)=true) (hS:St' (q+1) W'):qy cs St' (xE L i) W':=by
 obtain ⟨m,hm,hs,hr⟩:=h
 have h1:¬ q<m:=by have:=hr q hq; rw [hi,hL] at this; simpa using this.symm
 have h2:m=q:=by
  rcases hp with rfl | hp
  ·
   omega
  ·
   have:=hr (q - 1) (by omega)
   rw [hp] at this
   have:q - 1<m:=by simpa using this.symm
   omega
 subst h2
 have hX:qy cs (fun k V=>k=m+1→St' k V) L W':=⟨m,hm,fun e=>absurd e (by omega),hr⟩
 obtain ⟨k,hk,hs',hr'⟩:=hX.next m i hq hi hL hp hnd (fun _=>hS)
 have hkm:k=m+1:=by
  have e1:=hr' m hq
  rw [hi,show xE L i i=true from if_pos rfl] at e1
  have e1':m<k:=by simpa using e1.symm
  by_cases hlt:m+1<cs.length
  ·
   have h3:=List.all_eq_true.1 hnd (m+1) (List.mem_range.2 hlt)
   have e2:=hr' (m+1) hlt
   have hne:cs.getD (m+1) 0≠i:=by
    have e1:((m+1) == m)=false:=by simp
    rw [e1,Bool.false_or,bne_iff_ne] at h3
    exact h3
   rw [show xE L i (cs.getD (m+1) 0)=L (cs.getD (m+1) 0) from if_neg hne,hr (m+1) hlt] at e2
   have:¬ m+1<k:=by
    have e3:decide (m+1<m)=false:=by simp
    rw [e3] at e2
    simpa using e2.symm
   omega
  ·
   omega
 subst hkm
 exact ⟨m+1,hk,hs' rfl,hr'⟩
theorem qy.done9 {cs:List Nat} {St:Nat→World→Prop} {L:Nat→Bool} {W:World} (h:qy cs St L W) (hall:∀ r,r<cs.length→L (cs.getD r 0)=true):St cs.length W:=by
 obtain ⟨m,hm,hs,hr⟩:=h
 by_cases e:m=cs.length
 ·
  rw [← e]; exact hs
 ·
  have h1:=hr m (by omega)
  rw [hall m (by omega)] at h1
  simp at h1

set_option maxRecDepth 100000 in
theorem qr (B:Nat) (p q:Option Nat) (L M:zg) (s:ByteArray) (w:World) (h:va w B p q L M) (hs:s.size≤maxLen) :
  Calls Tryz.prog 120 #[.pointer (some ⟨B,0,none⟩),.string s] w fun e w'=>e=.returned (.bool (yb L s.data.toList))∧(∃ M',va w' B p q (xH L s.data.toList) M')∧Um B p q w w':=by
 have hl:=look9 h.mapp s hs
 have c0:=h.cell0
 cases hh:yb L s.data.toList with
 | false =>
  rw [hh] at hl
  have HF:Hid ((∃ M',va w B p q (xH L s.data.toList) M')∧Um B p q w w):=⟨⟨M,by rw [xW hh]; exact h⟩,zc.refl _ w⟩
  clear h
  generalize tx7 (yF L s.data.toList)=g at *
  go_enter Tryz.func120,Tryz.ntmps120
  go_wp2
  go_ret
  exact ⟨rfl,HF.out⟩
 | true =>
  rw [hh] at hl
  have hmem:=xz hh
  have hmay:=h.all _ hmem
  have hgs:(tx7 (yF L s.data.toList)).size≤maxLen:=by
   show (yF L s.data.toList).toArray.size≤_
   rw [List.size_toArray]; exact Nat.le_trans (fI hmay.2.1) (by decide)
  obtain ⟨w1,r1,m1,t1⟩:=drop9 h.mapp s hs 0
  have hB1:w1.heap[B]? = _:=(t1.block B h.lt (fun e=>h.pne _ e rfl)).trans h.blk
  have c1:w1.cell? ⟨B,1,none⟩=some (.map q):=by simp [World.cell?,hB1]
  have q1:vn w1 q M:=h.mapq.turns t1 (fun b hb e=>h.apt b b e hb rfl)
  obtain ⟨w2,r2,m2,t2⟩:=drop9 q1 (tx7 (yF L s.data.toList)) hgs 0
  have ht:Um B p q w w2:=(t1.mono (fun i _ e=>.inr (.inl e))).next t2 (fun i _ e=>.inr (.inr e))
  have HF:Hid ((∃ M',va w2 B p q (xH L s.data.toList) M')∧Um B p q w w2):=by
   rw [yv] at m2
   refine ⟨⟨_,⟨(t2.block B (Nat.lt_of_lt_of_le h.lt t1.size) (fun e=>h.qne _ e rfl)).trans hB1,m1.turns t2 (fun b hb e=>h.apt b b hb e rfl),m2,h.both,h.apt,h.mir.del hh,?_,fun x hx=>h.all x (yn.1 hx).1⟩⟩,ht⟩
   exact Nat.le_trans (List.length_filter_le _ _) h.few
  clear h hB1 q1 m1 m2 t1 t2 ht hmem hmay hgs
  generalize tx7 (yF L s.data.toList)=g at *
  go_enter Tryz.func120,Tryz.ntmps120
  go_wp2
  go_ret
  exact ⟨rfl,HF.out⟩

def YPut9 (B b c:Nat) (n a:ByteArray):Nat→Value→Prop
 | 2,v=>v=.pointer (some ⟨B,0,none⟩)
 | 3,v=>v=.map (some b)
 | 4,v=>v=.string n
 | 7,v=>v=.pointer (some ⟨B,1,none⟩)
 | 8,v=>v=.map (some c)
 | 9,v=>v=.string a
 | 10,v=>v=.string a
 | 11,v=>v=.string n
 | _,v=>v=.pointer (some ⟨B,0,none⟩)
def StPut9 (b c:Nat) (L M L' M':zg) (n a:ByteArray) (x12 x15:Value):Nat→World→Prop
 | 0,W=>qx W b L∧qx W c M
 | 1,W=>(∃ (v0:Value) (st:Nat),x12=.tuple #[v0,.int .i64 (st:Int)]∧Vo W b L' (.int .i64 (st:Int)) (.string a))∧qx W c M
 | 2,W=>qx W b L'∧qx W c M
 | 3,W=>qx W b L'∧∃ (v0:Value) (st:Nat),x15=.tuple #[v0,.int .i64 (st:Int)]∧Vo W c M' (.int .i64 (st:Int)) (.string n)
 | _,W=>qx W b L'∧qx W c M'
structure jS (w1:World) (B b c:Nat) (L M L' M':zg) (n a:ByteArray) (D:Nat→Bool) (x:Nat→Value) (W:World):Prop where
 y:∀ j,j<12→D j=true→YPut9 B b c n a j (x j)
 e12:D 12=true→∃ (v0:Value) (st:Nat),x 12=.tuple #[v0,.int .i64 (st:Int)]
 e15:D 15=true→∃ (v0:Value) (st:Nat),x 15=.tuple #[v0,.int .i64 (st:Int)]
 e13:D 13=true→D 12=true∧∃ v0,x 12=.tuple #[v0,x 13]
 e16:D 16=true→D 15=true∧∃ v0,x 15=.tuple #[v0,x 16]
 t:zc (fun i=>i=b∨i=c) w1 W
 s:qy [12,14,15,17] (StPut9 b c L M L' M' n a (x 12) (x 15)) D W

section
variable {w1:World} {B b c:Nat} {L M L' M':zg} {n a:ByteArray} {D:Nat→Bool} {x:Nat→Value} {W W':World}
theorem jS.start (x:Nat→Value) (hb:qx w1 b L) (hc:qx w1 c M):jS w1 B b c L M L' M' n a (fun _=>false) x w1.drew :=
 ⟨(fun _ _ h=>nomatch h),(fun h=>nomatch h),(fun h=>nomatch h),(fun h=>nomatch h),(fun h=>nomatch h),(zc.refl _ w1).drew,qy.start ⟨hb,hc⟩⟩
theorem jS.quiet (h:jS w1 B b c L M L' M' n a D x W) (i:Nat) (v:Value) (hi:[12,14,15,17].contains i=false) (hy:i<12→YPut9 B b c n a i v)
  (h13:i=13→D 12=true∧∃ v0,x 12=.tuple #[v0,v]) (h16:i=16→D 15=true∧∃ v0,x 15=.tuple #[v0,v]):jS w1 B b c L M L' M' n a (xE D i) (upd x i v) W:=by
 have n12:12≠i:=fun e=>by subst e; simp at hi
 have n15:15≠i:=fun e=>by subst e; simp at hi
 have u12:upd x i v 12=x 12:=if_neg n12
 have u15:upd x i v 15=x 15:=if_neg n15
 have d12:xE D i 12=D 12:=if_neg n12
 have d15:xE D i 15=D 15:=if_neg n15
 refine ⟨fun j hj hd=>?_,fun hd=>?_,fun hd=>?_,fun hd=>?_,fun hd=>?_,h.t,?_⟩
 ·
  by_cases e:j=i
  ·
   subst e; rw [show upd x j v j=v from if_pos rfl]; exact hy hj
  ·
   rw [show upd x i v j=x j from if_neg e]; rw [show xE D i j=D j from if_neg e] at hd; exact h.y j hj hd
 ·
  rw [u12]; rw [d12] at hd; exact h.e12 hd
 ·
  rw [u15]; rw [d15] at hd; exact h.e15 hd
 ·
  rw [u12,d12]
  by_cases e:13=i
  ·
   subst e; rw [show upd x 13 v 13=v from if_pos rfl]; exact h13 rfl
  ·
   rw [show upd x i v 13=x 13 from if_neg e]; rw [show xE D i 13=D 13 from if_neg e] at hd; exact h.e13 hd
 ·
  rw [u15,d15]
  by_cases e:16=i
  ·
   subst e; rw [show upd x 16 v 16=v from if_pos rfl]; exact h16 rfl
  ·
   rw [show upd x i v 16=x 16 from if_neg e]; rw [show xE D i 16=D 16 from if_neg e] at hd; exact h.e16 hd
 ·
  rw [u12,u15]; exact h.s.same i hi (fun _ h=>h)
theorem Yh {W W':World} {b i:Nat} (ht:W.mapTurned W' b) (hne:i≠b):W'.heap[i]? = W.heap[i]? := vt ht (fun e=>hne e.symm)
theorem jS.turn (h:jS w1 B b c L M L' M' n a D x W) {k:Nat} (hk:k=b∨k=c) (ht:W.mapTurned W' k):zc (fun i=>i=b∨i=c) w1 W' :=
 h.t.grown ht.grown (fun j hj _=>by cases hj; exact hk)
theorem jS.y2 (h:jS w1 B b c L M L' M' n a D x W) (i:Nat) (v:Value) (hi:¬ i<12):∀ j,j<12→xE D i j=true→YPut9 B b c n a j (upd x i v j):=fun j hj hd=>by
 have e:j≠i:=fun e=>hi (e ▸ hj)
 rw [show upd x i v j=x j from if_neg e]; rw [show xE D i j=D j from if_neg e] at hd; exact h.y j hj hd
theorem jS.at12 (h:jS w1 B b c L M L' M' n a D x W) (hD:D 12=false) {v0:Value} {st:Nat} (hH:Vo W' b L' (.int .i64 (st:Int)) (.string a)) (ht:W.mapTurned W' b) (hbc:b≠c) :
  jS w1 B b c L M L' M' n a (xE D 12) (upd x 12 (.tuple #[v0,.int .i64 (st:Int)])) W':=by
 have u12:upd x 12 (.tuple #[v0,.int .i64 (st:Int)]) 12=.tuple #[v0,.int .i64 (st:Int)]:=if_pos rfl
 have hs:=h.s.at_ 0 (by decide) hD (.inl rfl)
 refine ⟨h.y2 12 _ (by decide),fun _=>⟨v0,st,u12⟩,fun hd=>h.e15 hd,fun hd=>?_,fun hd=>h.e16 hd,h.turn (.inl rfl) ht,?_⟩
 ·
  have:=(h.e13 hd).1
  rw [hD] at this; cases this
 ·
  refine h.s.move9 0 12 (by decide) rfl hD (.inl rfl) (by decide) ⟨⟨v0,st,u12,hH⟩,hs.2.kept (Yh ht hbc.symm)⟩
theorem jS.at14 (h:jS w1 B b c L M L' M' n a D x W) (hD:D 14=false) (h12:D 12=true) {v:Value} (hm:qx W' b L') (ht:W.mapTurned W' b) (hbc:b≠c) :
  jS w1 B b c L M L' M' n a (xE D 14) (upd x 14 v) W':=by
 have hs:=h.s.at_ 1 (by decide) hD (.inr h12)
 refine ⟨h.y2 14 _ (by decide),fun hd=>h.e12 hd,fun hd=>h.e15 hd,fun hd=>h.e13 hd,fun hd=>h.e16 hd,h.turn (.inl rfl) ht,?_⟩
 exact h.s.move9 1 14 (by decide) rfl hD (.inr h12) (by decide) ⟨hm,hs.2.kept (Yh ht hbc.symm)⟩
theorem jS.at15 (h:jS w1 B b c L M L' M' n a D x W) (hD:D 15=false) (h14:D 14=true) {v0:Value} {st:Nat} (hH:Vo W' c M' (.int .i64 (st:Int)) (.string n)) (ht:W.mapTurned W' c) (hbc:b≠c) :
  jS w1 B b c L M L' M' n a (xE D 15) (upd x 15 (.tuple #[v0,.int .i64 (st:Int)])) W':=by
 have u15:upd x 15 (.tuple #[v0,.int .i64 (st:Int)]) 15=.tuple #[v0,.int .i64 (st:Int)]:=if_pos rfl
 have hs:=h.s.at_ 2 (by decide) hD (.inr h14)
 refine ⟨h.y2 15 _ (by decide),fun hd=>h.e12 hd,fun _=>⟨v0,st,u15⟩,fun hd=>h.e13 hd,fun hd=>?_,h.turn (.inr rfl) ht,?_⟩
 ·
  have:=(h.e16 hd).1
  rw [hD] at this; cases this
 ·
  exact h.s.move9 2 15 (by decide) rfl hD (.inr h14) (by decide) ⟨hs.1.kept (Yh ht hbc),⟨v0,st,u15,hH⟩⟩
theorem jS.at17 (h:jS w1 B b c L M L' M' n a D x W) (hD:D 17=false) (h15:D 15=true) {v:Value} (hm:qx W' c M') (ht:W.mapTurned W' c) (hbc:b≠c) :
  jS w1 B b c L M L' M' n a (xE D 17) (upd x 17 v) W':=by
 have hs:=h.s.at_ 3 (by decide) hD (.inr h15)
 refine ⟨h.y2 17 _ (by decide),fun hd=>h.e12 hd,fun hd=>h.e15 hd,fun hd=>h.e13 hd,fun hd=>h.e16 hd,h.turn (.inr rfl) ht,?_⟩
 exact h.s.move9 3 17 (by decide) rfl hD (.inr h15) (by decide) ⟨hs.1.kept (Yh ht hbc),hm⟩
end

theorem blk_set0 {W:World} {B:Nat} {u v:Value} {T:TypeId} (v':Value) (h:W.heap[B]? = some (.cells #[u,v] T (0,0))):(W.setCell ⟨B,0,none⟩ v').heap[B]? = some (.cells #[v',v] T (0,0)):=by
 obtain ⟨hlt,hk⟩:=Array.getElem?_eq_some_iff.1 h
 show (W.heap.modify B _)[B]? = _
 rw [Array.getElem?_eq_getElem (by rw [Array.size_modify]; exact hlt),Array.getElem_modify_self,hk]
 rfl
theorem blk_set1 {W:World} {B:Nat} {u v:Value} {T:TypeId} (v':Value) (h:W.heap[B]? = some (.cells #[u,v] T (0,0))):(W.setCell ⟨B,1,none⟩ v').heap[B]? = some (.cells #[u,v'] T (0,0)):=by
 obtain ⟨hlt,hk⟩:=Array.getElem?_eq_some_iff.1 h
 show (W.heap.modify B _)[B]? = _
 rw [Array.getElem?_eq_getElem (by rw [Array.size_modify]; exact hlt),Array.getElem_modify_self,hk]
 rfl

set_option maxRecDepth 100000 in
theorem Qr (B:Nat) (p q:Option Nat) (L M:zg) (n a:ByteArray) (w:World) (h:va w B p q L M) (hm:May9 (n.data.toList,a.data.toList)) (hfree:XV (xH L n.data.toList) a.data.toList=false) (hf:(yR L n.data.toList a.data.toList).length≤100) :
  Calls Tryz.prog 222 #[.pointer (some ⟨B,0,none⟩),.string n,.string a] w fun e w'=>e=.returned (.tuple #[])∧vD w B p q (yR L n.data.toList a.data.toList) w':=by
 have hn':n.size≤maxLen:=by have:=JI hm.1; rw [zi] at this; exact Nat.le_trans this (by decide)
 have ha':a.size≤maxLen:=by have:=fI hm.2.1; rw [zi] at this; exact Nat.le_trans this (by decide)
 have HD:=za (qr B p q L M n w h hn')
 have hall:∀ y∈yR L n.data.toList a.data.toList,May9 y:=fun y hy=>by
  rcases xx.1 hy with rfl | ⟨hy,_⟩
  ·
   exact hm
  ·
   exact h.all y hy
 have hpd:=Jv h.rise n.data.toList a.data.toList
 have HPD:Hid (yR (xH L n.data.toList) n.data.toList a.data.toList=yR L n.data.toList a.data.toList):=hpd
 have HF:Hid ((xH L n.data.toList).length≤1000):=Nat.le_trans (List.length_filter_le _ _) (Nat.le_trans h.few (by decide))
 have HALL:=za hall
 have HLN:=za hf
 have hlt0:=h.lt
 have hlp:=h.plt
 have hlq:=h.qlt
 clear h hm hall hpd hf
 go_enter Tryz.func222,Tryz.ntmps222
 go_wp2_with fail
 with_reducible refine HD.out.mono ?_
 rintro e w1 ⟨rfl,⟨M1,hi⟩,ht⟩
 have HI:=za hi
 have HT:=za ht
 have hfr:XV (xH L n.data.toList) a.data.toList=false:=hfree
 have hmir:=hi.mir.put (YL L n.data.toList) hfr
 rw [HPD.out] at hmir
 have HMIR:=za hmir
 have HG:Hid (M1.length≤1000):=by show _≤_; rw [hi.mir.length]; exact HF.out
 have hq:=nilmap9 w1 p
 have hc0:=hi.cell0
 clear ht hmir hfr HD
 cases p with
 | none =>
  have hqn:q=none:=by
   have:=hi.both
   cases q with
   | none=>rfl
   | some c=>cases this
  subst hqn
  have hL1:=hi.mapp.nil rfl
  have hM1:=hi.mapq.nil rfl
  have f0:=hi.frozen0
  have f1:=hi.frozen1
  have hc1:=hi.cell1
  have hblk:=hi.blk
  have hblt:=hi.lt
  have hmm:=@run_makeMap Tryz.prog
  have hs0:((w1.setCell ⟨B,0,none⟩ (.map (some w1.heap.size))).setCell ⟨B,1,none⟩ (.map (some (w1.heap.size+1)))).heap.size=w1.heap.size:=by simp [World.setCell]
  have hb0:=blk_set1 (.map (some (w1.heap.size+1))) (blk_set0 (.map (some w1.heap.size)) hblk)
  have hb2:(((w1.setCell ⟨B,0,none⟩ (.map (some w1.heap.size))).setCell ⟨B,1,none⟩ (.map (some (w1.heap.size+1)))).alloc (.map #[] 0)).heap[B]? = _:=(Below.heap_alloc _ _ B (by omega)).trans hb0
  have hb3:((((w1.setCell ⟨B,0,none⟩ (.map (some w1.heap.size))).setCell ⟨B,1,none⟩ (.map (some (w1.heap.size+1)))).alloc (.map #[] 0)).alloc (.map #[] 0)).heap[B]? = _:=(Below.heap_alloc _ _ B (by simp; omega)).trans hb2
  have m1:=World.ownsMap_made (H:=Unit) ((w1.setCell ⟨B,0,none⟩ (.map (some w1.heap.size))).setCell ⟨B,1,none⟩ (.map (some (w1.heap.size+1)))) Tryz.prog 9 (plainElem Tryz.prog 9)
  have m2:=World.ownsMap_made (H:=Unit) (((w1.setCell ⟨B,0,none⟩ (.map (some w1.heap.size))).setCell ⟨B,1,none⟩ (.map (some (w1.heap.size+1)))).alloc (.map #[] 0)) Tryz.prog 9 (plainElem Tryz.prog 9)
  have m1':=m1.alloc (.map #[] 0)
  rw [hs0] at m1'
  rw [World.size_alloc,hs0] at m2
  have e0:(.map []:DataW Unit)=jH []:=rfl
  rw [e0] at m1' m2
  have hT2:zc (fun i=>i=B) w1 ((((w1.setCell ⟨B,0,none⟩ (.map (some w1.heap.size))).setCell ⟨B,1,none⟩ (.map (some (w1.heap.size+1)))).alloc (.map #[] 0)).alloc (.map #[] 0)):=((((zc.refl (fun i=>i=B) w1).setCell (p:=⟨B,0,none⟩) (fun _=>rfl) _).setCell (p:=⟨B,1,none⟩) (fun _=>rfl) _).alloc _).alloc _
  have hB1:=qx.of (L:=[]) m1'
  rw [← hL1] at hB1
  have hB2:=qx.of (L:=[]) m2
  rw [← hM1] at hB2
  have HB1:=za hB1
  have HB2:=za hB2
  clear hB1 hB2
  have hz:((((w1.setCell ⟨B,0,none⟩ (.map (some w1.heap.size))).setCell ⟨B,1,none⟩ (.map (some (w1.heap.size+1)))).alloc (.map #[] 0)).alloc (.map #[] 0)).heap.size=w1.heap.size+2:=by rw [World.size_alloc,World.size_alloc,hs0]
  clear m1 m2 m1' e0 hb2 hb0 hs0 hi hlp hlq
  go_wp2
  clear hc0 hc1 hq f0 f1 hmm hblk
  generalize ((((w1.setCell ⟨B,0,none⟩ (.map (some w1.heap.size))).setCell ⟨B,1,none⟩ (.map (some (w1.heap.size+1)))).alloc (.map #[] 0)).alloc (.map #[] 0))=w2 at *
  have hsz:=HT.out.size
  generalize hc:w1.heap.size+1=c at *
  generalize hb:w1.heap.size=b at *
  have hbc:b≠c:=by omega
  have HBL:Hid (B<w2.heap.size):=by show _<_; omega
  have HBN:Hid (¬ (B=b∨B=c)):=by show ¬ _; omega
  have HC0:Hid (w2.cell? ⟨B,0,none⟩=some (.map (some b))):=by show _=_; simp [World.cell?,hb3]
  have HC1:Hid (w2.cell? ⟨B,1,none⟩=some (.map (some c))):=by show _=_; simp [World.cell?,hb3]
  have HEND:Hid (∀ W,zc (fun i=>i=b∨i=c) w2 W→qx W b (yR L n.data.toList a.data.toList)→qx W c (yR M1 a.data.toList n.data.toList)→vD w B none none (yR L n.data.toList a.data.toList) W):=fun W hW h1 h2=>by
   refine ⟨some b,some c,_,⟨(hW.block B HBL.out HBN.out).trans hb3,⟨(fun h=>nomatch h),fun b' e=>by cases e; exact h1⟩,⟨(fun h=>nomatch h),fun b' e=>by cases e; exact h2⟩,rfl,(fun _ _ e1 e2=>by cases e1; cases e2; exact hbc),HMIR.out,HLN.out,HALL.out⟩,(fun _ e=>.inr (by cases e; omega)),(fun _ e=>.inr (by cases e; omega)),?_⟩
   exact (HT.out.next hT2 (fun i _ e=>.inl e)).next hW (fun i hi e=>by omega)
  clear HI HT HMIR HLN HALL hT2 hb3 hL1 hM1
  refine vS (by kernel_rfl) (jS w2 B b c (xH L n.data.toList) M1 (yR L n.data.toList a.data.toList) (yR M1 a.data.toList n.data.toList) n a) ?F ?hF (by kernel_rfl) (by kernel_rfl) (fun x=>jS.start x HB1.out HB2.out) ?step ?fin
  case hF =>
   intro x
   simp only [List.map_cons,List.map_nil,xw,Act.put,List.setIfInBounds_toArray,List.set_cons_zero,List.set_cons_succ,Nat.zero_add,Nat.reduceAdd]
   exact rfl
  case step =>
   rw [← HPD.out]
   refine ⟨?_,?_,?_,?_,?_,?_,?_,?_,?_,?_,?_,?_,?_,?_,?_,?_,?_,?_,trivial⟩
   ·
    intro D x W hi hd hI K hK
    clear hd
    go_simp
    exact hK _ _ (hI.quiet 0 _ rfl (fun _=>rfl) (fun h=>absurd h (by decide)) (fun h=>absurd h (by decide)))
   ·
    intro D x W hi hd hI K hK
    have h0:x 0=_:=hI.y 0 (by decide) (hd 0 rfl)
    clear hd
    simp only [h0] at hK
    go_simp
    exact hK _ _ (hI.quiet 1 _ rfl (fun _=>rfl) (fun h=>absurd h (by decide)) (fun h=>absurd h (by decide)))
   ·
    intro D x W hi hd hI K hK
    have h1:x 1=_:=hI.y 1 (by decide) (hd 1 rfl)
    clear hd
    simp only [h1] at hK
    go_simp
    exact hK _ _ (hI.quiet 2 _ rfl (fun _=>rfl) (fun h=>absurd h (by decide)) (fun h=>absurd h (by decide)))
   ·
    intro D x W hi hd hI K hK
    have h2:x 2=_:=hI.y 2 (by decide) (hd 2 rfl)
    have c:=(hI.t.cell (p:=⟨B,0,none⟩) HBL.out HBN.out).trans HC0.out
    clear hd
    simp only [h2] at hK
    go_simp
    exact hK _ _ (hI.quiet 3 _ rfl (fun _=>rfl) (fun h=>absurd h (by decide)) (fun h=>absurd h (by decide)))
   ·
    intro D x W hi hd hI K hK
    clear hd
    go_simp
    exact hK _ _ (hI.quiet 4 _ rfl (fun _=>rfl) (fun h=>absurd h (by decide)) (fun h=>absurd h (by decide)))
   ·
    intro D x W hi hd hI K hK
    clear hd
    go_simp
    exact hK _ _ (hI.quiet 5 _ rfl (fun _=>rfl) (fun h=>absurd h (by decide)) (fun h=>absurd h (by decide)))
   ·
    intro D x W hi hd hI K hK
    have h5:x 5=_:=hI.y 5 (by decide) (hd 5 rfl)
    clear hd
    simp only [h5] at hK
    go_simp
    exact hK _ _ (hI.quiet 6 _ rfl (fun _=>rfl) (fun h=>absurd h (by decide)) (fun h=>absurd h (by decide)))
   ·
    intro D x W hi hd hI K hK
    have h6:x 6=_:=hI.y 6 (by decide) (hd 6 rfl)
    clear hd
    simp only [h6] at hK
    go_simp
    exact hK _ _ (hI.quiet 7 _ rfl (fun _=>rfl) (fun h=>absurd h (by decide)) (fun h=>absurd h (by decide)))
   ·
    intro D x W hi hd hI K hK
    have h7:x 7=_:=hI.y 7 (by decide) (hd 7 rfl)
    have c:=(hI.t.cell (p:=⟨B,1,none⟩) HBL.out HBN.out).trans HC1.out
    clear hd
    simp only [h7] at hK
    go_simp
    exact hK _ _ (hI.quiet 8 _ rfl (fun _=>rfl) (fun h=>absurd h (by decide)) (fun h=>absurd h (by decide)))
   ·
    intro D x W hi hd hI K hK
    clear hd
    go_simp
    exact hK _ _ (hI.quiet 9 _ rfl (fun _=>rfl) (fun h=>absurd h (by decide)) (fun h=>absurd h (by decide)))
   ·
    intro D x W hi hd hI K hK
    clear hd
    go_simp
    exact hK _ _ (hI.quiet 10 _ rfl (fun _=>rfl) (fun h=>absurd h (by decide)) (fun h=>absurd h (by decide)))
   ·
    intro D x W hi hd hI K hK
    clear hd
    go_simp
    exact hK _ _ (hI.quiet 11 _ rfl (fun _=>rfl) (fun h=>absurd h (by decide)) (fun h=>absurd h (by decide)))
   ·
    intro D x W hi hd hI K hK
    have h3:x 3=_:=hI.y 3 (by decide) (hd 3 rfl)
    have h4:x 4=_:=hI.y 4 (by decide) (hd 4 rfl)
    obtain ⟨v0,st,W1,hrun,hH,hT⟩:=half9 (hI.s.at_ 0 (by decide) hi (.inl rfl)).1 HF.out n a hn' ha'
    clear hd
    simp only [h3,h4] at hK
    go_simp
    exact hK _ _ (hI.at12 hi hH hT hbc)
   ·
    intro D x W hi hd hI K hK
    have hp:=hd 12 rfl
    obtain ⟨v0,st,h12⟩:=hI.e12 hp
    clear hd
    simp only [h12] at hK
    go_simp
    exact hK _ _ (hI.quiet 13 _ rfl (fun h=>absurd h (by decide)) (fun _=>⟨hp,v0,by rw [h12]⟩) (fun h=>absurd h (by decide)))
   ·
    intro D x W hi hd hI K hK
    have h3:x 3=_:=hI.y 3 (by decide) (hd 3 rfl)
    have h10:x 10=_:=hI.y 10 (by decide) (hd 10 rfl)
    obtain ⟨⟨v0,st,e12,hH⟩,hM⟩:=hI.s.at_ 1 (by decide) hi (.inr (hd 12 rfl))
    obtain ⟨_,v1,e13⟩:=hI.e13 (hd 13 rfl)
    have h13:x 13=.int .i64 (st:Int):=(by rw [e12] at e13; simpa using e13.symm:v1=v0∧x 13=_).2
    obtain ⟨o,ho,hst⟩:=hH
    obtain ⟨W3,hrun,hm3,hT⟩:=hst W ho
    have hd12:=hd 12 rfl
    clear hd e13 e12 hst
    simp only [h3,h13,h10] at hK
    go_simp
    exact hK undef _ (hI.at14 hi hd12 hm3 hT hbc)
   ·
    intro D x W hi hd hI K hK
    have h8:x 8=_:=hI.y 8 (by decide) (hd 8 rfl)
    have h9:x 9=_:=hI.y 9 (by decide) (hd 9 rfl)
    obtain ⟨v0,st,W1,hrun,hH,hT⟩:=half9 (hI.s.at_ 2 (by decide) hi (.inr (hd 14 rfl))).2 HG.out a n ha' hn'
    have hd14:=hd 14 rfl
    clear hd
    simp only [h8,h9] at hK
    go_simp
    exact hK _ _ (hI.at15 hi hd14 hH hT hbc)
   ·
    intro D x W hi hd hI K hK
    have hp:=hd 15 rfl
    obtain ⟨v0,st,h15⟩:=hI.e15 hp
    clear hd
    simp only [h15] at hK
    go_simp
    exact hK _ _ (hI.quiet 16 _ rfl (fun h=>absurd h (by decide)) (fun h=>absurd h (by decide)) (fun _=>⟨hp,v0,by rw [h15]⟩))
   ·
    intro D x W hi hd hI K hK
    have h8:x 8=_:=hI.y 8 (by decide) (hd 8 rfl)
    have h11:x 11=_:=hI.y 11 (by decide) (hd 11 rfl)
    obtain ⟨hM,v0,st,e15,hH⟩:=hI.s.at_ 3 (by decide) hi (.inr (hd 15 rfl))
    obtain ⟨_,v1,e16⟩:=hI.e16 (hd 16 rfl)
    have h16:x 16=.int .i64 (st:Int):=(by rw [e15] at e16; simpa using e16.symm:v1=v0∧x 16=_).2
    obtain ⟨o,ho,hst⟩:=hH
    obtain ⟨W3,hrun,hm3,hT⟩:=hst W ho
    have hd15:=hd 15 rfl
    clear hd e16 e15 hst
    simp only [h8,h16,h11] at hK
    go_simp
    exact hK undef _ (hI.at17 hi hd15 hm3 hT hbc)
  case fin =>
   intro D x W hall hI
   have HZ:=za (HEND.out W hI.t (hI.s.done9 (fun r hr=>hall _ (by simp at hr; rcases r with _ | _ | _ | _ | r <;> first | decide | omega))).1 (hI.s.done9 (fun r hr=>hall _ (by simp at hr; rcases r with _ | _ | _ | _ | r <;> first | decide | omega))).2)
   clear hI hall
   go_end0
   exact ⟨rfl,HZ.out⟩
 | some b =>
  obtain ⟨c,rfl⟩:∃ c,q=some c:=by
   have:=hi.both
   cases q with
   | none=>cases this
   | some c=>exact ⟨c,rfl⟩
  have hbc:=hi.apt b c rfl rfl
  have HB1:=za (hi.mapp.map b rfl)
  have HB2:=za (hi.mapq.map c rfl)
  have HBL:=za hi.lt
  have HBN:Hid (¬ (B=b∨B=c)):=fun e=>e.elim (fun e=>hi.pne b rfl e.symm) (fun e=>hi.qne c rfl e.symm)
  have HC0:=za hi.cell0
  have HC1:=za hi.cell1
  have HEND:Hid (∀ W,zc (fun i=>i=b∨i=c) w1 W→qx W b (yR L n.data.toList a.data.toList)→qx W c (yR M1 a.data.toList n.data.toList)→vD w B (some b) (some c) (yR L n.data.toList a.data.toList) W):=fun W hW h1 h2=>by
   refine ⟨some b,some c,_,⟨(hW.block B HBL.out HBN.out).trans HI.out.blk,⟨(fun h=>nomatch h),fun b' e=>by cases e; exact h1⟩,⟨(fun h=>nomatch h),fun b' e=>by cases e; exact h2⟩,rfl,(fun _ _ e1 e2=>by cases e1; cases e2; exact hbc),HMIR.out,HLN.out,HALL.out⟩,(fun _ e=>.inl e),(fun _ e=>.inl e),?_⟩
   exact HT.out.next hW (fun i _ e=>e.elim (fun e=>.inr (.inl (by rw [e]))) (fun e=>.inr (.inr (by rw [e]))))
  clear hi HI HT HMIR HLN HALL hlp hlq hlt0
  go_wp2
  clear hc0 hq
  generalize w1=w2 at *
  refine vS (by kernel_rfl) (jS w2 B b c (xH L n.data.toList) M1 (yR L n.data.toList a.data.toList) (yR M1 a.data.toList n.data.toList) n a) ?F2 ?hF2 (by kernel_rfl) (by kernel_rfl) (fun x=>jS.start x HB1.out HB2.out) ?step2 ?fin2
  case hF2 =>
   intro x
   simp only [List.map_cons,List.map_nil,xw,Act.put,List.setIfInBounds_toArray,List.set_cons_zero,List.set_cons_succ,Nat.zero_add,Nat.reduceAdd]
   exact rfl
  case step2 =>
   rw [← HPD.out]
   refine ⟨?_,?_,?_,?_,?_,?_,?_,?_,?_,?_,?_,?_,?_,?_,?_,?_,?_,?_,trivial⟩
   ·
    intro D x W hi hd hI K hK
    clear hd
    go_simp
    exact hK _ _ (hI.quiet 0 _ rfl (fun _=>rfl) (fun h=>absurd h (by decide)) (fun h=>absurd h (by decide)))
   ·
    intro D x W hi hd hI K hK
    have h0:x 0=_:=hI.y 0 (by decide) (hd 0 rfl)
    clear hd
    simp only [h0] at hK
    go_simp
    exact hK _ _ (hI.quiet 1 _ rfl (fun _=>rfl) (fun h=>absurd h (by decide)) (fun h=>absurd h (by decide)))
   ·
    intro D x W hi hd hI K hK
    have h1:x 1=_:=hI.y 1 (by decide) (hd 1 rfl)
    clear hd
    simp only [h1] at hK
    go_simp
    exact hK _ _ (hI.quiet 2 _ rfl (fun _=>rfl) (fun h=>absurd h (by decide)) (fun h=>absurd h (by decide)))
   ·
    intro D x W hi hd hI K hK
    have h2:x 2=_:=hI.y 2 (by decide) (hd 2 rfl)
    have c:=(hI.t.cell (p:=⟨B,0,none⟩) HBL.out HBN.out).trans HC0.out
    clear hd
    simp only [h2] at hK
    go_simp
    exact hK _ _ (hI.quiet 3 _ rfl (fun _=>rfl) (fun h=>absurd h (by decide)) (fun h=>absurd h (by decide)))
   ·
    intro D x W hi hd hI K hK
    clear hd
    go_simp
    exact hK _ _ (hI.quiet 4 _ rfl (fun _=>rfl) (fun h=>absurd h (by decide)) (fun h=>absurd h (by decide)))
   ·
    intro D x W hi hd hI K hK
    clear hd
    go_simp
    exact hK _ _ (hI.quiet 5 _ rfl (fun _=>rfl) (fun h=>absurd h (by decide)) (fun h=>absurd h (by decide)))
   ·
    intro D x W hi hd hI K hK
    have h5:x 5=_:=hI.y 5 (by decide) (hd 5 rfl)
    clear hd
    simp only [h5] at hK
    go_simp
    exact hK _ _ (hI.quiet 6 _ rfl (fun _=>rfl) (fun h=>absurd h (by decide)) (fun h=>absurd h (by decide)))
   ·
    intro D x W hi hd hI K hK
    have h6:x 6=_:=hI.y 6 (by decide) (hd 6 rfl)
    clear hd
    simp only [h6] at hK
    go_simp
    exact hK _ _ (hI.quiet 7 _ rfl (fun _=>rfl) (fun h=>absurd h (by decide)) (fun h=>absurd h (by decide)))
   ·
    intro D x W hi hd hI K hK
    have h7:x 7=_:=hI.y 7 (by decide) (hd 7 rfl)
    have c:=(hI.t.cell (p:=⟨B,1,none⟩) HBL.out HBN.out).trans HC1.out
    clear hd
    simp only [h7] at hK
    go_simp
    exact hK _ _ (hI.quiet 8 _ rfl (fun _=>rfl) (fun h=>absurd h (by decide)) (fun h=>absurd h (by decide)))
   ·
    intro D x W hi hd hI K hK
    clear hd
    go_simp
    exact hK _ _ (hI.quiet 9 _ rfl (fun _=>rfl) (fun h=>absurd h (by decide)) (fun h=>absurd h (by decide)))
   ·
    intro D x W hi hd hI K hK
    clear hd
    go_simp
    exact hK _ _ (hI.quiet 10 _ rfl (fun _=>rfl) (fun h=>absurd h (by decide)) (fun h=>absurd h (by decide)))
   ·
    intro D x W hi hd hI K hK
    clear hd
    go_simp
    exact hK _ _ (hI.quiet 11 _ rfl (fun _=>rfl) (fun h=>absurd h (by decide)) (fun h=>absurd h (by decide)))
   ·
    intro D x W hi hd hI K hK
    have h3:x 3=_:=hI.y 3 (by decide) (hd 3 rfl)
    have h4:x 4=_:=hI.y 4 (by decide) (hd 4 rfl)
    obtain ⟨v0,st,W1,hrun,hH,hT⟩:=half9 (hI.s.at_ 0 (by decide) hi (.inl rfl)).1 HF.out n a hn' ha'
    clear hd
    simp only [h3,h4] at hK
    go_simp
    exact hK _ _ (hI.at12 hi hH hT hbc)
   ·
    intro D x W hi hd hI K hK
    have hp:=hd 12 rfl
    obtain ⟨v0,st,h12⟩:=hI.e12 hp
    clear hd
    simp only [h12] at hK
    go_simp
    exact hK _ _ (hI.quiet 13 _ rfl (fun h=>absurd h (by decide)) (fun _=>⟨hp,v0,by rw [h12]⟩) (fun h=>absurd h (by decide)))
   ·
    intro D x W hi hd hI K hK
    have h3:x 3=_:=hI.y 3 (by decide) (hd 3 rfl)
    have h10:x 10=_:=hI.y 10 (by decide) (hd 10 rfl)
    obtain ⟨⟨v0,st,e12,hH⟩,hM⟩:=hI.s.at_ 1 (by decide) hi (.inr (hd 12 rfl))
    obtain ⟨_,v1,e13⟩:=hI.e13 (hd 13 rfl)
    have h13:x 13=.int .i64 (st:Int):=(by rw [e12] at e13; simpa using e13.symm:v1=v0∧x 13=_).2
    obtain ⟨o,ho,hst⟩:=hH
    obtain ⟨W3,hrun,hm3,hT⟩:=hst W ho
    have hd12:=hd 12 rfl
    clear hd e13 e12 hst
    simp only [h3,h13,h10] at hK
    go_simp
    exact hK undef _ (hI.at14 hi hd12 hm3 hT hbc)
   ·
    intro D x W hi hd hI K hK
    have h8:x 8=_:=hI.y 8 (by decide) (hd 8 rfl)
    have h9:x 9=_:=hI.y 9 (by decide) (hd 9 rfl)
    obtain ⟨v0,st,W1,hrun,hH,hT⟩:=half9 (hI.s.at_ 2 (by decide) hi (.inr (hd 14 rfl))).2 HG.out a n ha' hn'
    have hd14:=hd 14 rfl
    clear hd
    simp only [h8,h9] at hK
    go_simp
    exact hK _ _ (hI.at15 hi hd14 hH hT hbc)
   ·
    intro D x W hi hd hI K hK
    have hp:=hd 15 rfl
    obtain ⟨v0,st,h15⟩:=hI.e15 hp
    clear hd
    simp only [h15] at hK
    go_simp
    exact hK _ _ (hI.quiet 16 _ rfl (fun h=>absurd h (by decide)) (fun h=>absurd h (by decide)) (fun _=>⟨hp,v0,by rw [h15]⟩))
   ·
    intro D x W hi hd hI K hK
    have h8:x 8=_:=hI.y 8 (by decide) (hd 8 rfl)
    have h11:x 11=_:=hI.y 11 (by decide) (hd 11 rfl)
    obtain ⟨hM,v0,st,e15,hH⟩:=hI.s.at_ 3 (by decide) hi (.inr (hd 15 rfl))
    obtain ⟨_,v1,e16⟩:=hI.e16 (hd 16 rfl)
    have h16:x 16=.int .i64 (st:Int):=(by rw [e15] at e16; simpa using e16.symm:v1=v0∧x 16=_).2
    obtain ⟨o,ho,hst⟩:=hH
    obtain ⟨W3,hrun,hm3,hT⟩:=hst W ho
    have hd15:=hd 15 rfl
    clear hd e16 e15 hst
    simp only [h8,h16,h11] at hK
    go_simp
    exact hK undef _ (hI.at17 hi hd15 hm3 hT hbc)
  case fin2 =>
   intro D x W hall hI
   have HZ:=za (HEND.out W hI.t (hI.s.done9 (fun r hr=>hall _ (by simp at hr; rcases r with _ | _ | _ | _ | r <;> first | decide | omega))).1 (hI.s.done9 (fun r hr=>hall _ (by simp at hr; rcases r with _ | _ | _ | _ | r <;> first | decide | omega))).2)
   clear hI hall
   go_end0
   exact ⟨rfl,HZ.out⟩
end Go.Proofs.YthmomkjingcbiaaGreatDoor
namespace Go.Proofs.YthmomkjingcbiaaGreatDoor
open Go.RowKit Go.Maps Go.Shelf

theorem vD.after {w w1 w':World} {B:Nat} {p q:Option Nat} {L':zg} (ht:Um B p q w w1) (h:vD w1 B p q L' w'):vD w B p q L' w':=by
 obtain ⟨p',q',M',hd,hp,hq,hu⟩:=h
 exact ⟨p',q',M',hd,fun b e=>(hp b e).imp id (fun h=>Nat.le_trans ht.size h),fun b e=>(hq b e).imp id (fun h=>Nat.le_trans ht.size h),zc.next ht hu (fun i _ h=>h)⟩

def X7 (L:zg) (n a:List UInt8):Bool:=XV L a && decide (Xw L a≠n)
def uW (L:zg) (n m:List UInt8):Int:=if zf n then (if m=[] then 0 else if yS m then (if X7 L n (zD m) then 9 else 0) else 11) else 10
def Xl (L:zg) (n m:List UInt8):zg:=if uW L n m=0 then (if m=[] then xH L n else yR L n (zD m)) else L

theorem free9 {L M:zg} (h:zS L M) {n a:List UInt8} (hb:X7 L n a=false):XV (xH L n) a=false:=by
 cases hd:XV (xH L n) a
 ·
  rfl
 ·
  obtain ⟨h1,h2⟩:=yn.1 (qM hd)
  have h3:XV L a=true:=qH h1
  have h4:Xw L a=Xw (xH L n) a:=h.own h1
  unfold X7 at hb
  rw [h3,Bool.true_and,decide_eq_false_iff_not] at hb
  have h5:Xw L a=n:=by
   by_cases e:Xw L a=n
   ·
    exact e
   ·
    exact absurd e hb
  exact absurd (h4.symm.trans h5) h2
theorem put_le9 {L:zg} (hr:yY L) (n a:List UInt8):(yR L n a).length≤L.length+1:=by
 rw [xm hr]; split <;> omega
theorem vO (l:List UInt8):(ByteArray.mk (zD l).toArray).data.toList=zD l:=by simp

set_option maxRecDepth 100000 in
theorem Qg (B:Nat) (p q:Option Nat) (L M:zg) (n m:ByteArray) (w:World) (h:va w B p q L M) (hn:n.size≤9223372036854775807) (hmz:m.size≤9223372036854775807) (hl:L.length<100) (h5:vQ w) :
  Calls Tryz.prog 221 #[.pointer (some ⟨B,0,none⟩),.string n,.string m] w fun e w'=>e=.returned (.int .i64 (uW L n.data.toList m.data.toList))∧vD w B p q (Xl L n.data.toList m.data.toList) w':=by
 have hn':n.size≤maxLen:=Nat.le_trans hn (by decide)
 have HN:=za (yE n w hn)
 have HI:=za h
 unfold Xl
 cases hb:zf n.data.toList with
 | false =>
  rw [hb] at HN
  have HN2:Hid (Calls Tryz.prog 52 #[.string n] w (zP 10 w)):=HN.out
  have e1:uW L n.data.toList m.data.toList=10:=by unfold uW; rw [hb]; rfl
  rw [e1,if_neg (by decide)]
  clear HN hb h e1
  go_enter Tryz.func221,Tryz.ntmps221
  go_wp2_with fail
  with_reducible refine HN2.out.mono ?_
  rintro e w1 ⟨rfl,hb⟩
  have HB:=za hb
  clear hb HN2
  go_wp2
  go_ret
  exact ⟨rfl,vD.still HI.out HB.out⟩
 | true =>
  rw [hb] at HN
  have HN2:Hid (Calls Tryz.prog 52 #[.string n] w (zP 0 w)):=HN.out
  have HNM:=za hb
  clear HN
  by_cases h0:m.size=0
  ·
   obtain rfl:m=⟨#[]⟩:=by
    obtain ⟨d⟩:=m
    obtain rfl:d=#[]:=Array.eq_empty_of_size_eq_zero h0
    rfl
   have e1:uW L n.data.toList (ByteArray.mk #[]).data.toList=0:=by unfold uW; rw [hb]; rfl
   rw [e1,if_pos rfl,if_pos (by rfl)]
   have HD:Hid (∀ W,va W B p q L M→Calls Tryz.prog 120 #[.pointer (some ⟨B,0,none⟩),.string n] W fun e w'=>e=.returned (.bool (yb L n.data.toList))∧(∃ M',va w' B p q (xH L n.data.toList) M')∧Um B p q W w'):=fun W hW=>qr B p q L M n W hW hn'
   clear hb h e1 hmz
   generalize yb L n.data.toList=r at *
   go_enter Tryz.func221,Tryz.ntmps221
   go_wp2_with fail
   with_reducible refine HN2.out.mono ?_
   rintro e w1 ⟨rfl,hb⟩
   have HB:=za hb
   have HD1:=za (HD.out w1 (HI.out.later hb))
   clear hb HN2 HD
   go_wp2_with fail
   with_reducible refine HD1.out.mono ?_
   rintro e w2 ⟨rfl,⟨M2,hi⟩,ht⟩
   have HF:Hid (vD w B p q (xH L n.data.toList) w2):=vD.ahead HB.out ⟨p,q,M2,hi,(fun _ e=>.inl e),(fun _ e=>.inl e),ht⟩
   clear hi ht HD1
   go_wp2
   go_ret
   exact ⟨rfl,HF.out⟩
  ·
   have hne:¬ m.toList=[]:=fun e=>h0 (by rw [← zi,← ByteArray.toList_eq,e]; rfl)
   have hne1:¬ m.data.toList=[]:=fun e=>h0 (by rw [← zi,e]; rfl)
   have hne2:m.toList.isEmpty=false:=by simpa using hne
   have HM:Hid (∀ W,vQ W→Calls Tryz.prog 220 #[.string m] W (Mails5 (yS m.data.toList) (jj m.data.toList) W)):=fun W hW=>ZT m W hmz hW
   have H5:=za h5
   cases hc:yS m.data.toList with
   | false =>
    have e1:uW L n.data.toList m.data.toList=11:=by unfold uW; rw [hb,if_pos rfl,if_neg hne1,hc]; rfl
    rw [e1,if_neg (by decide)]
    unfold jj at HM
    rw [hc] at HM
    have HM2:Hid (∀ W,vQ W→Calls Tryz.prog 220 #[.string m] W fun e w'=>e=.returned (.tuple #[.string ⟨#[]⟩,.int .i64 11])∧Below W.heap.size W w'):=HM.out
    clear HM hb h e1 hmz hc h5 hne1
    go_enter Tryz.func221,Tryz.ntmps221
    go_wp2_with fail
    with_reducible refine HN2.out.mono ?_
    rintro e w1 ⟨rfl,hb⟩
    have HB:=za hb
    have HM1:=za (HM2.out w1 (H5.out.later hb))
    clear hb HN2 HM2
    go_wp2_with fail
    with_reducible refine HM1.out.mono ?_
    rintro e w2 ⟨rfl,hb⟩
    have HF:=za (z7 HB.out hb)
    clear hb HM1
    go_wp2
    go_ret
    exact ⟨rfl,vD.still HI.out HF.out⟩
   | true =>
    unfold jj at HM
    rw [hc] at HM
    have HM2:Hid (∀ W,vQ W→Calls Tryz.prog 220 #[.string m] W fun e w'=>e=.returned (.tuple #[.string ⟨(zD m.data.toList).toArray⟩,.int .i64 0])∧Below W.heap.size W w'):=HM.out
    have hfz:(ByteArray.mk (zD m.data.toList).toArray).size≤maxLen:=by
     show (zD m.data.toList).toArray.size≤_
     rw [List.size_toArray,vx,zi]; exact Nat.le_trans hmz (by decide)
    have HLK:Hid (∀ W,va W B p q L M→(Instr.lookup 76 (.map q) (.string ⟨(zD m.data.toList).toArray⟩) true).run Tryz.prog W=.ok (.tuple #[.string (tx7 (Xw L (zD m.data.toList))),.bool (XV L (zD m.data.toList))]) W):=fun W hW=>by
     have:=look9 hW.mapq ⟨(zD m.data.toList).toArray⟩ hfz
     rw [vO,hW.mir.get,hW.mir.has] at this
     exact this
    have e0:uW L n.data.toList m.data.toList=if X7 L n.data.toList (zD m.data.toList) then 9 else 0:=by unfold uW; rw [hb,if_pos rfl,if_neg hne1,hc,if_pos rfl]
    have HP:Hid (X7 L n.data.toList (zD m.data.toList)=false→∀ W,Below w.heap.size w W→Calls Tryz.prog 222 #[.pointer (some ⟨B,0,none⟩),.string n,.string ⟨(zD m.data.toList).toArray⟩] W fun e w'=>e=.returned (.tuple #[])∧vD w B p q (yR L n.data.toList (zD m.data.toList)) w'):=fun hbd W hW=>by
     have hfr:=free9 h.mir hbd
     have:=Qr B p q L M n ⟨(zD m.data.toList).toArray⟩ W (h.later hW) (by rw [vO]; exact May9.of hb hc) (by rw [vO]; exact hfr) (by rw [vO]; exact Nat.le_trans (put_le9 h.rise _ _) hl)
     rw [vO] at this
     exact this.mono fun e w' ⟨he,hg⟩=>⟨he,hg.ahead hW⟩
    rw [if_neg hne1,e0]
    clear HM e0 hfz h5 hc
    cases hho:XV L (zD m.data.toList) with
    | false =>
     have hbd:X7 L n.data.toList (zD m.data.toList)=false:=by unfold X7; rw [hho]; rfl
     have HP2:=za (HP.out hbd)
     rw [hbd,if_neg (by decide),if_pos rfl]
     rw [hho] at HLK
     clear HP hbd hho hb h hmz hne1
     generalize tx7 (Xw L (zD m.data.toList))=o at *
     generalize (⟨(zD m.data.toList).toArray⟩:ByteArray)=f at *
     go_enter Tryz.func221,Tryz.ntmps221
     go_wp2_with fail
     with_reducible refine HN2.out.mono ?_
     rintro e w1 ⟨rfl,hb⟩
     have HB:=za hb
     have HM1:=za (HM2.out w1 (H5.out.later hb))
     clear hb HN2 HM2
     go_wp2_with fail
     with_reducible refine HM1.out.mono ?_
     rintro e w2 ⟨rfl,hb⟩
     have hb2:=z7 HB.out hb
     have l1:=HLK.out w2 (HI.out.later hb2)
     have c1:=(HI.out.later hb2).cell1
     have HP3:=za (HP2.out w2 hb2)
     clear hb HM1 HLK HP2 hb2
     go_wp2_with fail
     with_reducible refine HP3.out.mono ?_
     rintro e w3 ⟨rfl,hg⟩
     have HG:=za hg
     clear hg HP3 l1 c1
     go_wp2
     go_ret
     exact ⟨rfl,HG.out⟩
    | true =>
     rw [hho] at HLK
     by_cases ho:Xw L (zD m.data.toList)=n.data.toList
     ·
      have hbd:X7 L n.data.toList (zD m.data.toList)=false:=by unfold X7; rw [ho]; simp
      have HP2:=za (HP.out hbd)
      rw [hbd,if_neg (by decide),if_pos rfl]
      rw [ho,jV] at HLK
      have n1:(n.toList != n.toList)=false:=by simp
      have n2:(n.toList == n.toList)=true:=by simp
      clear HP hbd hho hb h hmz ho hne1
      generalize (⟨(zD m.data.toList).toArray⟩:ByteArray)=f at *
      go_enter Tryz.func221,Tryz.ntmps221
      go_wp2_with fail
      with_reducible refine HN2.out.mono ?_
      rintro e w1 ⟨rfl,hb⟩
      have HB:=za hb
      have HM1:=za (HM2.out w1 (H5.out.later hb))
      clear hb HN2 HM2
      go_wp2_with fail
      with_reducible refine HM1.out.mono ?_
      rintro e w2 ⟨rfl,hb⟩
      have hb2:=z7 HB.out hb
      have l1:=HLK.out w2 (HI.out.later hb2)
      have c1:=(HI.out.later hb2).cell1
      have HP3:=za (HP2.out w2 hb2)
      clear hb HM1 HLK HP2 hb2
      go_wp2_with fail
      with_reducible refine HP3.out.mono ?_
      rintro e w3 ⟨rfl,hg⟩
      have HG:=za hg
      clear hg HP3 l1 c1
      go_wp2
      go_ret
      exact ⟨rfl,HG.out⟩
     ·
      have hbd:X7 L n.data.toList (zD m.data.toList)=true:=by unfold X7; rw [hho,Bool.true_and,decide_eq_true ho]
      rw [hbd,if_pos rfl,if_neg (by decide)]
      have n1:¬ (tx7 (Xw L (zD m.data.toList))).toList=n.toList:=by
       rw [Lib.toList_data,Lib.toList_data,yv]; exact ho
      have n2:((tx7 (Xw L (zD m.data.toList))).toList == n.toList)=false:=by simpa using n1
      clear HP hbd hho hb h hmz ho hne1
      generalize tx7 (Xw L (zD m.data.toList))=o at *
      generalize (⟨(zD m.data.toList).toArray⟩:ByteArray)=f at *
      go_enter Tryz.func221,Tryz.ntmps221
      go_wp2_with fail
      with_reducible refine HN2.out.mono ?_
      rintro e w1 ⟨rfl,hb⟩
      have HB:=za hb
      have HM1:=za (HM2.out w1 (H5.out.later hb))
      clear hb HN2 HM2
      go_wp2_with fail
      with_reducible refine HM1.out.mono ?_
      rintro e w2 ⟨rfl,hb⟩
      have hb2:=z7 HB.out hb
      have l1:=HLK.out w2 (HI.out.later hb2)
      have c1:=(HI.out.later hb2).cell1
      have HF:=za hb2
      clear hb HM1 HLK hb2
      go_wp2
      go_ret
      exact ⟨rfl,vD.still HI.out HF.out⟩


def New9 (w W:World) (b:Nat) (p q:Option Nat) (L M:zg):Prop:=va W b p q L M∧w.heap.size≤b∧(∀ c,p=some c→w.heap.size≤c)∧(∀ c,q=some c→w.heap.size≤c)
theorem New9.later {w W W':World} {b:Nat} {p q:Option Nat} {L M:zg} (h:New9 w W b p q L M) (hb:Below W.heap.size W W'):New9 w W' b p q L M:=⟨h.1.later hb,h.2⟩
theorem vn.later {w w':World} {p:Option Nat} {L:zg} (h:vn w p L) (hb:Below w.heap.size w w'):vn w' p L:=h.turns (zc.of_below hb (fun _=>False)) (fun _ _ f=>f)
theorem vn.lt {w:World} {p:Option Nat} {L:zg} (h:vn w p L):∀ b,p=some b→b<w.heap.size:=fun b hb=>(h.map b hb).lt

def YCp9 (B:Nat) (p q:Option Nat):Nat→Value→Prop
 | 2,v=>v=.pointer (some ⟨B,0,none⟩)
 | 3,v=>v=.map p
 | 7,v=>v=.pointer (some ⟨B,1,none⟩)
 | 8,v=>v=.map q
 | 4,_=>True
 | 9,_=>True
 | 10,_=>True
 | 11,_=>True
 | 12,_=>True
 | _,v=>v=.pointer (some ⟨B,0,none⟩)
def Cl9 (w W:World) (L:zg) (s:Bool) (p':Option Nat):Prop:=vn W p' L∧p'.isSome=s∧∀ b,p'=some b→w.heap.size≤b
structure Cp9 (w:World) (B:Nat) (p q:Option Nat) (L M:zg) (D:Nat→Bool) (x:Nat→Value) (W:World):Prop where
 b:Below w.heap.size w W
 y:∀ {j:Nat},D j=true→YCp9 B p q j (x j)
 y4:D 4=true→∃ p',x 4=.map p'∧Cl9 w W L p.isSome p'
 y9:D 9=true→∃ q',x 9=.map q'∧Cl9 w W M q.isSome q'
 ne:D 4=true→D 9=true→∀ p' q',x 4=.map p'→x 9=.map q'→∀ b c,p'=some b→q'=some c→b≠c
 y10:D 10=true→∃ p' q',x 10=.agg #[.map p',.map q']∧Cl9 w W L p.isSome p'∧Cl9 w W M q.isSome q'∧∀ b c,p'=some b→q'=some c→b≠c
 y11:D 11=true→∃ b p' q',x 11=.pointer (some ⟨b,0,none⟩)∧New9 w W b p' q' L M
 y12:D 12=true→∃ b p' q',x 12=.pointer (some ⟨b,0,none⟩)∧New9 w W b p' q' L M
theorem Cl9.later {w W W':World} {L:zg} {s:Bool} {p':Option Nat} (h:Cl9 w W L s p') (hb:Below W.heap.size W W'):Cl9 w W' L s p':=⟨h.1.later hb,h.2⟩

section
variable {w W W':World} {B:Nat} {p q:Option Nat} {L M:zg} {D:Nat→Bool} {x:Nat→Value}
theorem vr {x:Nat→Value} {i:Nat} {v:Value}:upd x i v i=v:=if_pos rfl
theorem uT {x:Nat→Value} {i j:Nat} {v:Value} (h:j≠i):upd x i v j=x j:=if_neg h
theorem vz {D:Nat→Bool} {i j:Nat} (h:j≠i):xE D i j=D j:=if_neg h
theorem Cp9.more (h:Cp9 w B p q L M D x W) (i:Nat) (v:Value) (hb:Below W.heap.size W W') (hy:YCp9 B p q i v)
  (h4:i=4→∃ p',v=.map p'∧Cl9 w W' L p.isSome p'∧∀ b,p'=some b→W.heap.size≤b) (h9:i=9→∃ q',v=.map q'∧Cl9 w W' M q.isSome q'∧∀ b,q'=some b→W.heap.size≤b)
  (h10:i=10→∃ p' q',v=.agg #[.map p',.map q']∧Cl9 w W' L p.isSome p'∧Cl9 w W' M q.isSome q'∧∀ b c,p'=some b→q'=some c→b≠c)
  (h11:i=11→∃ b p' q',v=.pointer (some ⟨b,0,none⟩)∧New9 w W' b p' q' L M) (h12:i=12→∃ b p' q',v=.pointer (some ⟨b,0,none⟩)∧New9 w W' b p' q' L M):Cp9 w B p q L M (xE D i) (upd x i v) W':=by
 refine ⟨z7 h.b hb,fun {j} hd=>?_,fun hd=>?_,fun hd=>?_,fun hd4 hd9 p' q' e4 e9 b c eb ec=>?_,fun hd=>?_,fun hd=>?_,fun hd=>?_⟩
 ·
  by_cases e:j=i
  ·
   subst e; rw [vr]; exact hy
  ·
   rw [uT e]; rw [vz e] at hd; exact h.y hd
 ·
  by_cases e:4=i
  ·
   subst e; rw [vr]; obtain ⟨p',e1,e2,_⟩:=h4 rfl; exact ⟨p',e1,e2⟩
  ·
   rw [uT e]; rw [vz e] at hd; obtain ⟨p',e1,e2⟩:=h.y4 hd; exact ⟨p',e1,e2.later hb⟩
 ·
  by_cases e:9=i
  ·
   subst e; rw [vr]; obtain ⟨p',e1,e2,_⟩:=h9 rfl; exact ⟨p',e1,e2⟩
  ·
   rw [uT e]; rw [vz e] at hd; obtain ⟨p',e1,e2⟩:=h.y9 hd; exact ⟨p',e1,e2.later hb⟩
 ·
  subst eb ec
  by_cases i4:4=i
  ·
   subst i4
   rw [vr] at e4
   rw [uT (by decide)] at e9
   rw [vz (by decide)] at hd9
   obtain ⟨p',e1,_,e3⟩:=h4 rfl
   obtain ⟨q',f1,f2⟩:=h.y9 hd9
   rw [e4] at e1; rw [e9] at f1
   injection e1 with e1; injection f1 with f1
   have:=e3 b e1.symm
   have:=f2.1.lt c f1.symm
   omega
  ·
   by_cases i9:9=i
   ·
    subst i9
    rw [vr] at e9
    rw [uT (by decide)] at e4
    rw [vz (by decide)] at hd4
    obtain ⟨q',e1,_,e3⟩:=h9 rfl
    obtain ⟨p',f1,f2⟩:=h.y4 hd4
    rw [e9] at e1; rw [e4] at f1
    injection e1 with e1; injection f1 with f1
    have:=e3 c e1.symm
    have:=f2.1.lt b f1.symm
    omega
   ·
    rw [uT i4] at e4; rw [uT i9] at e9; rw [vz i4] at hd4; rw [vz i9] at hd9
    exact h.ne hd4 hd9 _ _ e4 e9 b c rfl rfl
 ·
  by_cases e:10=i
  ·
   subst e; rw [vr]; exact h10 rfl
  ·
   rw [uT e]; rw [vz e] at hd; obtain ⟨p',q',e1,e2,e3,e4⟩:=h.y10 hd; exact ⟨p',q',e1,e2.later hb,e3.later hb,e4⟩
 ·
  by_cases e:11=i
  ·
   subst e; rw [vr]; exact h11 rfl
  ·
   rw [uT e]; rw [vz e] at hd; obtain ⟨b,p',q',e1,e2⟩:=h.y11 hd; exact ⟨b,p',q',e1,e2.later hb⟩
 ·
  by_cases e:12=i
  ·
   subst e; rw [vr]; exact h12 rfl
  ·
   rw [uT e]; rw [vz e] at hd; obtain ⟨b,p',q',e1,e2⟩:=h.y12 hd; exact ⟨b,p',q',e1,e2.later hb⟩
theorem Cp9.quiet (h:Cp9 w B p q L M D x W) (i:Nat) {v:Value} (hy:YCp9 B p q i v) (hi:[4,9,10,11,12].contains i=false:=by rfl):Cp9 w B p q L M (xE D i) (upd x i v) W :=
 h.more i v (Below.refl _ _) hy (fun e=>by subst e; cases hi) (fun e=>by subst e; cases hi) (fun e=>by subst e; cases hi) (fun e=>by subst e; cases hi) (fun e=>by subst e; cases hi)
theorem Cp9.at12 (h:Cp9 w B p q L M D x W) {v:Value} (hv:∃ b p' q',v=.pointer (some ⟨b,0,none⟩)∧New9 w W b p' q' L M):Cp9 w B p q L M (xE D 12) (upd x 12 v) W :=
 h.more 12 v (Below.refl _ _) trivial (fun e=>absurd e (by decide)) (fun e=>absurd e (by decide)) (fun e=>absurd e (by decide)) (fun e=>absurd e (by decide)) (fun _=>hv)
theorem Cp9.start (w:World) (x:Nat→Value):Cp9 w B p q L M (fun _=>false) x w.drew :=
 ⟨zz (Below.refl _ _),(fun {_} h=>nomatch h),(fun h=>nomatch h),(fun h=>nomatch h),(fun h _=>nomatch h),(fun h=>nomatch h),(fun h=>nomatch h),(fun h=>nomatch h)⟩
end


end Go.Proofs.YthmomkjingcbiaaGreatDoor
