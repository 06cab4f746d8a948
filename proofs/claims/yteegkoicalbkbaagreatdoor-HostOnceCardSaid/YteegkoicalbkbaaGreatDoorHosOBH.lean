/-
  The texts that the laws of this seat share, part 8: what the code and the document's own answers tell, walked function by function.
  Conditions: each theorem's own.
-/
import Derived.Test.YteegkoicalbkbaaGreatDoorHosOBG
set_option maxHeartbeats 16000000
namespace Go.Proofs.YteegkoicalbkbaaGreatDoor
open Go.RowKit Go.Maps

structure U11 where
 hs:List UInt8
 ml:List UInt8
 dis:Bool
 gs:List (List UInt8)
abbrev zu:=yT (List UInt8×Bool)
abbrev xo:=yT U11
def xP (L:zl) (S:zo) (n:List UInt8) (a:List UInt8×Bool):U11:=⟨a.1,yM L n,a.2,xc S n⟩
def zm (A:zu) (L:zl) (S:zo):xo:=A.map fun p=>(p.1,xP L S p.1 p.2)

section
variable {V:Type}
theorem FN:∀ {a b:yT V},zG a→zG b→(∀ x,x∈a↔x∈b)→a=b
 | [],[],_,_,_=>rfl
 | [],y::s,_,_,h=>absurd ((h y).2 (by simp)) (by simp)
 | x::r,[],_,_,h=>absurd ((h x).1 (by simp)) (by simp)
 | x::r,y::s,ha,hb,h=>by
  obtain ⟨a1,a2⟩:=List.pairwise_cons.1 ha
  obtain ⟨b1,b2⟩:=List.pairwise_cons.1 hb
  have e:x=y:=by
   rcases List.mem_cons.1 ((h x).1 (by simp)) with e | hx
   ·
    exact e
   ·
    rcases List.mem_cons.1 ((h y).2 (by simp)) with e | hy
    ·
     exact e.symm
    ·
     exact absurd (b1 _ hx) (by rw [vF (a1 _ hy)]; exact Bool.noConfusion)
  subst e
  rw [FN a2 b2 fun z=>?_]
  constructor
  ·
   intro hz
   rcases List.mem_cons.1 ((h z).1 (by simp [hz])) with e | h'
   ·
    subst e; exact absurd (a1 _ hz) (by rw [zA]; exact Bool.noConfusion)
   ·
    exact h'
  ·
   intro hz
   rcases List.mem_cons.1 ((h z).2 (by simp [hz])) with e | h'
   ·
    subst e; exact absurd (b1 _ hz) (by rw [zA]; exact Bool.noConfusion)
   ·
    exact h'
theorem ext11 {a b:yT V} (ha:zG a) (hb:zG b) (h:∀ k,qn a k=qn b k):a=b :=
 FN ha hb fun x=>by rw [← yl (k:=x.1) (v:=x.2) ha,← yl (k:=x.1) (v:=x.2) hb,h]
theorem jF {L:yT V} (hr:zG L) (k:List UInt8) (v:V) (x:List UInt8):qn (yR L k v) x=if x=k then some v else qn L x:=by
 refine Option.ext fun y=>?_
 rw [yl (xd hr k v),yJ]
 by_cases e:x=k
 ·
  subst e
  rw [if_pos rfl]
  constructor
  ·
   rintro (h | ⟨_,h⟩)
   ·
    injection h with _ h; rw [h]
   ·
    exact absurd rfl h
  ·
   intro h; injection h with h; rw [h]; exact .inl rfl
 ·
  rw [if_neg e,yl hr]
  constructor
  ·
   rintro (h | ⟨h,_⟩)
   ·
    injection h with h; exact absurd h e
   ·
    exact h
  ·
   intro h; exact .inr ⟨h,e⟩
theorem Zo {L:yT V} (hr:zG L) (k x:List UInt8):qn (xK L k) x=if x=k then none else qn L x:=by
 refine Option.ext fun y=>?_
 rw [yl (yw hr k),yz]
 by_cases e:x=k
 ·
  subst e
  rw [if_pos rfl]
  constructor
  ·
   rintro ⟨_,h⟩; exact absurd rfl h
  ·
   intro h; cases h
 ·
  rw [if_neg e,yl hr]
  exact ⟨fun h=>h.1,fun h=>⟨h,e⟩⟩
end

section
variable {A:zu} {L:zl} {S:zo}
theorem qM (A:zu) (L:zl) (S:zo):zc (zm A L S)=zc A:=by
 unfold zm zc; rw [List.map_map]; rfl
theorem jT (A:zu) (L:zl) (S:zo):(zm A L S).length=A.length:=List.length_map _
theorem yQ (h:zG A):zG (zm A L S):=xq h (qM A L S)
theorem uo (A:zu) (L:zl) (S:zo) (k:List UInt8):zz (zm A L S) k=zz A k:=by
 rw [Bool.eq_iff_iff,yK,yK,qM]
theorem yH (h:zG A) (k:List UInt8):qn (zm A L S) k=(qn A k).map (xP L S k):=by
 refine Option.ext fun y=>?_
 rw [yl (yQ h)]
 unfold zm
 rw [List.mem_map]
 constructor
 ·
  rintro ⟨p,hp,e⟩
  injection e with e1 e2
  subst e1
  rw [(yl (k:=p.1) (v:=p.2) h).2 hp,← e2]; rfl
 ·
  intro hy
  cases hg:qn A k with
  | none=>rw [hg] at hy; cases hy
  | some a =>
   rw [hg] at hy
   injection hy with hy
   exact ⟨(k,a),(yl h).1 hg,by rw [← hy]⟩

/-! ### addresses -/
theorem Zp (L:zl) (n x:List UInt8):yM (vx L n) x=if x=n then [] else yM L x:=by
 by_cases e:x=n
 ·
  subst e; rw [if_pos rfl]; exact xm (J1 L x)
 ·
  rw [if_neg e]
  cases h:yE L x with
  | false=>rw [xm h,xm (by rw [XY e]; exact h)]
  | true =>
   have h1:=vm h
   unfold yM vx
   have:∀ M:zl,((M.filter fun p=>!(p.1 == n)).find? fun p=>p.1 == x)=M.find? fun p=>p.1 == x:=by
    intro M
    induction M with
    | nil=>rfl
    | cons y r ih =>
     by_cases ey:y.1=n
     ·
      have:(y.1 == x)=false:=by simp [ey]; exact fun h=>e h.symm
      rw [List.filter_cons_of_neg (by simp [ey]),ih,List.find?_cons_of_neg (by simp [this])]
     ·
      rw [List.filter_cons_of_pos (by simp [ey])]
      by_cases ex:y.1=x
      ·
       rw [List.find?_cons_of_pos (by simp [ex]),List.find?_cons_of_pos (by simp [ex])]
      ·
       rw [List.find?_cons_of_neg (by simp [ex]),List.find?_cons_of_neg (by simp [ex]),ih]
   rw [this]
theorem X7 (hr:uy L) (n a x:List UInt8):yM (vl L n a) x=if x=n then a else yM L x:=by
 by_cases e:x=n
 ·
  subst e; rw [if_pos rfl,get_put hr]
 ·
  rw [if_neg e]
  cases h:yE L x with
  | true =>
   have h1:=vm h
   exact jG (uK hr n a) (q:=(x,yM L x)) (vA.2 (.inr ⟨h1,e⟩))
  | false =>
   rw [xm h]
   refine xm ?_
   cases h2:yE (vl L n a) x with
   | false=>rfl
   | true =>
    obtain ⟨p,hp,hx⟩:=xW.1 h2
    rcases vA.1 hp with rfl | ⟨hp,_⟩
    ·
     exact absurd hx.symm e
    ·
     rw [xW.2 ⟨p,hp,hx⟩] at h; cases h

/-! ### groups -/
theorem rel11 (hr:zG S):∃ M,uD S (zc S) M :=
 ⟨S.flatMap fun p=>p.2.map fun m=>(p.1,m.1),rfl,fun g n=>by
  rw [xN hr,List.mem_flatMap]
  constructor
  ·
   rintro ⟨p,hp,h⟩
   obtain ⟨m,hm,e⟩:=List.mem_map.1 h
   injection e with e1 e2
   exact ⟨p,hp,e1,xV.2 ⟨m,hm,e2⟩⟩
  ·
   rintro ⟨p,hp,e1,h⟩
   obtain ⟨m,hm,e2⟩:=xV.1 h
   exact ⟨p,hp,List.mem_map.2 ⟨m,hm,by rw [e1,e2]⟩⟩⟩
variable {k:Nat}
theorem in_make (hg:zD S k) {g:List UInt8} (he:qE S g=0) (x n:List UInt8):ue (jr S g) x n=ue S x n:=by
 unfold jr
 rw [if_pos he,in10_put hg.rise (UE he).2.1]
theorem in_drop (hg:zD S k) {g:List UInt8} (he:qg S g=0) (x n:List UInt8):ue (fP S g) x n=true↔ue S x n=true∧x≠g:=by
 unfold fP
 rw [if_pos he,in10_del hg.rise]
theorem QZ (hg:zD S k) {g n:List UInt8} (he:qF S g n=0) (x m:List UInt8):ue (jb S g n) x m=true↔ue S x m=true∨(x=g∧m=n):=by
 obtain ⟨M,hM⟩:=rel11 hg.rise
 rw [← (hM.join hg he).mem,List.mem_append,hM.mem]
 simp
theorem QY (hg:zD S k) {g n:List UInt8} (he:Y7 S g n=0) (x m:List UInt8):ue (Y6 S g n) x m=true↔ue S x m=true∧(x=g→m≠n):=by
 obtain ⟨M,hM⟩:=rel11 hg.rise
 rw [← (hM.leave hg he).mem,Qv,hM.mem]
theorem Fz (hg:zD S k) (n x m:List UInt8):ue (qY S n) x m=true↔ue S x m=true∧m≠n:=by
 obtain ⟨M,hM⟩:=rel11 hg.rise
 rw [← (hM.remove hg n).mem,rmM_mem,hM.mem]
theorem Zn (hg:zD S k) {o n:List UInt8} (he:Zd S o n=0) (hn:xc S n=[]) (hon:o≠n) (x m:List UInt8):ue (ZQ S o n) x m=true↔(m=n∧ue S x o=true)∨(m≠n∧m≠o∧ue S x m=true):=by
 obtain ⟨M,hM⟩:=rel11 hg.rise
 rw [← (hM.rename hg he).mem,← hM.mem,← hM.mem]
 unfold renM
 rw [List.mem_map]
 have hnn:∀ y,(y,n)∉M:=fun y hy=>by
  have h1:=(xl hg.rise).2 ((hM.mem y n).1 hy)
  rw [hn] at h1; cases h1
 constructor
 ·
  rintro ⟨y,hy,e⟩
  by_cases ey:y.2=o
  ·
   rw [if_pos (by simp [ey])] at e
   injection e with e1 e2
   exact .inl ⟨e2.symm,by rw [← e1,← ey]; exact hy⟩
  ·
   rw [if_neg (by simp [ey])] at e
   subst e
   exact .inr ⟨fun e=>hnn x (by rw [← e]; exact hy),ey,hy⟩
 ·
  rintro (⟨rfl,h⟩ | ⟨h1,h2,h⟩)
  ·
   exact ⟨_,h,by simp⟩
  ·
   exact ⟨_,h,by simp [h2]⟩

theorem ofT {S':zo} (hr:zG S) (hr':zG S') {n n':List UInt8} (h:∀ g,ue S' g n'=true↔ue S g n=true):xc S' n'=xc S n :=
 ur (vc hr' n') (vc hr n) fun g=>by rw [xl hr',xl hr,h]
theorem of_make (hg:zD S k) {g:List UInt8} (he:qE S g=0) (n:List UInt8):xc (jr S g) n=xc S n :=
 ofT hg.rise (FG hg g).rise fun x=>by rw [in_make hg he]
theorem of_drop (hg:zD S k) {g:List UInt8} (he:qg S g=0) (n:List UInt8):xc (fP S g) n=J9 (xc S n) g :=
 ur (vc (V4 hg g).rise n) ((vc hg.rise n).filter _) fun x=>by
  rw [xl (V4 hg g).rise,in_drop hg he,J9,List.mem_filter,xl hg.rise]
  simp
theorem of_join (hg:zD S k) {g n:List UInt8} (he:qF S g n=0) (m:List UInt8):xc (jb S g n) m=if m=n then Qi (xc S m++[g]) else xc S m:=by
 by_cases e:m=n
 ·
  subst e
  rw [if_pos rfl]
  refine ur (vc (jE hg g m).rise m) (Ut _) fun x=>?_
  rw [xl (jE hg g m).rise,QZ hg he,Xk,List.mem_append,xl hg.rise]
  simp
 ·
  rw [if_neg e]
  exact ofT hg.rise (jE hg g n).rise fun x=>by rw [QZ hg he]; simp [e]
theorem of_leave (hg:zD S k) {g n:List UInt8} (he:Y7 S g n=0) (m:List UInt8):xc (Y6 S g n) m=if m=n then J9 (xc S m) g else xc S m:=by
 by_cases e:m=n
 ·
  subst e
  rw [if_pos rfl]
  refine ur (vc (fd hg g m).rise m) ((vc hg.rise m).filter _) fun x=>?_
  rw [xl (fd hg g m).rise,QY hg he,J9,List.mem_filter,xl hg.rise]
  simp
 ·
  rw [if_neg e]
  exact ofT hg.rise (fd hg g n).rise fun x=>by rw [QY hg he]; simp [e]
theorem of_remove (hg:zD S k) (n m:List UInt8):xc (qY S n) m=if m=n then [] else xc S m:=by
 by_cases e:m=n
 ·
  subst e; rw [if_pos rfl]; exact removed10 hg.rise m
 ·
  rw [if_neg e]
  exact ofT hg.rise (V3 hg n).rise fun x=>by rw [Fz hg]; simp [e]
theorem Fa (hg:zD S k) {o n:List UInt8} (he:Zd S o n=0) (hn:xc S n=[]) (hon:o≠n) (m:List UInt8):xc (ZQ S o n) m=if m=n then xc S o else if m=o then [] else xc S m:=by
 by_cases e:m=n
 ·
  subst e; rw [if_pos rfl]
  exact ofT hg.rise (jd hg o m).rise fun x=>by rw [Zn hg he hn hon]; simp
 ·
  rw [if_neg e]
  by_cases e2:m=o
  ·
   subst e2; rw [if_pos rfl]
   refine List.eq_nil_iff_forall_not_mem.2 fun g hgm=>?_
   rw [xl (jd hg m n).rise,Zn hg he hn hon] at hgm
   simp [e] at hgm
  ·
   rw [if_neg e2]
   exact ofT hg.rise (jd hg o n).rise fun x=>by rw [Zn hg he hn hon]; simp [e,e2]
end

structure zn (A:zu) (L:zl) (S:zo) (k:Nat):Prop where
 rise:zG A
 few:A.length≤12
 nm:∀ p∈A,zh p.1=true∧yj p.2.1=true
 mir:∃ M,yo L M
 all:∀ x∈L,May9 x
 has:∀ x∈L,zz A x.1=true
 lfew:L.length≤k
 grp:zD S k
 mem:∀ g n,ue S g n=true→zz A n=true
theorem zn.nil:zn [] [] [] 0:=⟨List.Pairwise.nil,by simp,(fun _ h=>nomatch h),⟨[],yo.nil⟩,(fun _ h=>nomatch h),(fun _ h=>nomatch h),Nat.le_refl _,zD.nil,fun g n h=>by simp [ue,VS,qn,zz] at h⟩

def crF11 (a b c d:Bool):Int:=if a then (if b then (if c then 9 else if d then 7 else 0) else 4) else 10
def deF11 (a c:Bool):Int:=if a then (if c then 0 else 8) else 10
def shF11 (a b c d:Bool):Int:=if a then (if b then (if c then (if d then 12 else 0) else 8) else 4) else 10
def smF11 (a b c d:Bool):Int:=if a then (if b then (if c then (if d then 9 else 0) else 8) else 11) else 10
def diF11 (a c d:Bool):Int:=if a then (if c then (if d then 12 else 0) else 8) else 10
def rnF11 (a b c d:Bool):Int:=if a then (if b then (if c then (if d then 9 else 0) else 8) else 10) else 10
def mbF11 (a b c d e:Bool) (x:Int):Int:=if a then (if b then (if c then (if d then (if e then x else 0) else 8) else 8) else 10) else 10

/-! ### of the code -/
def uj (A:zu) (n:List UInt8):Bool:=match qn A n with | some a=>a.2 | none=>false
def qK (A:zu) (n:List UInt8):List UInt8:=match qn A n with | some a=>a.1 | none=>[]
def vu (m:List UInt8):Bool:=decide (m=[]) || ve m
def Jh (A:zu) (n h:List UInt8):Int:=crF11 (zh n) (yj h) (zz A n) (decide (12≤A.length))
def crA11 (A:zu) (n h:List UInt8):zu:=if Jh A n h=0 then yR A n (h,false) else A
def xY (A:zu) (n:List UInt8):Int:=deF11 (zh n) (zz A n)
def Ql (A:zu) (n h:List UInt8):Int:=shF11 (zh n) (yj h) (zz A n) (uj A n)
def shA11 (A:zu) (n h:List UInt8):zu:=if Ql A n h=0 then yR A n (h,uj A n) else A
def fi (A:zu) (L:zl) (n m:List UInt8):Int:=smF11 (zh n) (vu m) (zz A n) (decide (jy L n m=9))
def VB (A:zu) (L:zl) (n m:List UInt8):zl:=if fi A L n m=0 then Uu L n m else L
def U1 (A:zu) (n:List UInt8) (b:Bool):Int:=diF11 (zh n) (zz A n) (uj A n == b)
def diA11 (A:zu) (n:List UInt8) (b:Bool):zu:=if U1 A n b=0 then yR A n (qK A n,b) else A
def Za (A:zu) (o n:List UInt8):Int:=rnF11 (zh o) (zh n) (zz A o) (zz A n)
def rnA11 (A:zu) (o n:List UInt8):zu:=if Za A o n=0 then xK (yR A n (qK A o,uj A o)) o else A
def rnL11 (A:zu) (L:zl) (o n:List UInt8):zl:=if Za A o n=0 then reL9 L o n else L
def rnS11 (A:zu) (S:zo) (o n:List UInt8):zo:=if Za A o n=0 then ZQ S o n else S
def yW (A:zu) (g n:List UInt8):Int:=if zh g then (if zh n then (if zz A n then 0 else 8) else 10) else 10
def YO (A:zu) (S:zo) (g n:List UInt8):Int:=if yW A g n=0 then qF S g n else yW A g n
def joS11 (A:zu) (S:zo) (g n:List UInt8):zo:=if yW A g n=0 then jb S g n else S
def YN (A:zu) (S:zo) (g n:List UInt8):Int:=if yW A g n=0 then Y7 S g n else yW A g n
def leS11 (A:zu) (S:zo) (g n:List UInt8):zo:=if yW A g n=0 then Y6 S g n else S

/-! ### of the document -/
def disU (l:xo) (n:List UInt8):Bool:=match qn l n with | some u=>u.dis | none=>false
def gsU (l:xo) (n:List UInt8):List (List UInt8):=match qn l n with | some u=>u.gs | none=>[]
def setU (l:xo) (n:List UInt8) (f:U11→U11):xo:=match qn l n with | some u=>yR l n (f u) | none=>l
def badU (l:xo) (n a:List UInt8):Bool:=l.any fun p=>!(a == []) && (p.2.ml == a) && !(p.1 == n)
def qd (m:List UInt8):List UInt8:=if ve m then zN m else []
def dcrE (l:xo) (n h:List UInt8):Int:=crF11 (zh n) (yj h) (zz l n) (decide (12≤l.length))
def dcrL (l:xo) (n h:List UInt8):xo:=if dcrE l n h=0 then yR l n ⟨h,[],false,[]⟩ else l
def ddeE (l:xo) (n:List UInt8):Int:=deF11 (zh n) (zz l n)
def ddeL (l:xo) (n:List UInt8):xo:=if ddeE l n=0 then xK l n else l
def dshE (l:xo) (n h:List UInt8):Int:=shF11 (zh n) (yj h) (zz l n) (disU l n)
def dshL (l:xo) (n h:List UInt8):xo:=if dshE l n h=0 then setU l n (fun u=>{ u with hs:=h }) else l
def dsmE (l:xo) (n m:List UInt8):Int:=smF11 (zh n) (vu m) (zz l n) (badU l n (qd m))
def dsmL (l:xo) (n m:List UInt8):xo:=if dsmE l n m=0 then setU l n (fun u=>{ u with ml:=qd m }) else l
def ddiE (l:xo) (n:List UInt8) (b:Bool):Int:=diF11 (zh n) (zz l n) (disU l n == b)
def ddiL (l:xo) (n:List UInt8) (b:Bool):xo:=if ddiE l n b=0 then setU l n (fun u=>{ u with dis:=b }) else l
def drnE (l:xo) (o n:List UInt8):Int:=rnF11 (zh o) (zh n) (zz l o) (zz l n)
def drnL (l:xo) (o n:List UInt8):xo:=if drnE l o n=0 then (match qn l o with | some u=>yR (xK l o) n u | none=>l) else l
def dmaE11 (N:List (List UInt8)) (g:List UInt8):Int:=if zh g then (if ft N g then 9 else if 6≤N.length then 7 else 0) else 10
def dmaN11 (N:List (List UInt8)) (g:List UInt8):List (List UInt8):=if dmaE11 N g=0 then Qi (N++[g]) else N
def ddrE11 (N:List (List UInt8)) (g:List UInt8):Int:=if zh g then (if ft N g then 0 else 8) else 10
def ddrN11 (N:List (List UInt8)) (g:List UInt8):List (List UInt8):=if ddrE11 N g=0 then J9 N g else N
def dropU (l:xo) (g:List UInt8):xo:=l.map fun p=>(p.1,{ p.2 with gs:=J9 p.2.gs g })
def ddrL11 (l:xo) (N:List (List UInt8)) (g:List UInt8):xo:=if ddrE11 N g=0 then dropU l g else l
def djoE11 (l:xo) (N:List (List UInt8)) (g n:List UInt8):Int:=mbF11 (zh n) (zh g) (zz l n) (ft N g) (ft (gsU l n) g) 9
def djoL11 (l:xo) (N:List (List UInt8)) (g n:List UInt8):xo:=if djoE11 l N g n=0 then setU l n (fun u=>{ u with gs:=Qi (u.gs++[g]) }) else l
def dleE11 (l:xo) (N:List (List UInt8)) (g n:List UInt8):Int:=mbF11 (zh n) (zh g) (zz l n) (ft N g) (!ft (gsU l n) g) 12
def dleL11 (l:xo) (N:List (List UInt8)) (g n:List UInt8):xo:=if dleE11 l N g n=0 then setU l n (fun u=>{ u with gs:=J9 u.gs g }) else l

section
variable {A:zu} {L:zl} {S:zo} {k:Nat}
theorem zn.free (h:zn A L S k) {n:List UInt8} (hn:zz A n=false):yE L n=false∧yM L n=[]∧xc S n=[]:=by
 have h1:yE L n=false:=by
  cases hh:yE L n with
  | false=>rfl
  | true =>
   obtain ⟨x,hx,e⟩:=xW.1 hh
   have:=h.has x hx
   rw [e,hn] at this; cases this
 refine ⟨h1,xm h1,List.eq_nil_iff_forall_not_mem.2 fun g hg=>?_⟩
 have:=h.mem g n ((xl h.grp.rise).1 hg)
 rw [hn] at this; cases this
theorem zn.lrise (h:zn A L S k):uy L:=by obtain ⟨_,h⟩:=h.mir; exact h.rl
theorem tell_dis (h:zn A L S k) (n:List UInt8):disU (zm A L S) n=uj A n:=by
 unfold disU uj
 rw [yH h.rise]
 cases qn A n <;> rfl
theorem tell_gs (h:zn A L S k) {n:List UInt8}:gsU (zm A L S) n=xc S n:=by
 unfold gsU
 rw [yH h.rise]
 cases hh:qn A n with
 | some a=>rfl
 | none=>exact (h.free (qO.1 hh)).2.2.symm
theorem Qe (h:zG A) (n:List UInt8) (a:List UInt8×Bool):zm (yR A n a) L S=yR (zm A L S) n (xP L S n a) :=
 ext11 (yQ (xd h n a)) (xd (yQ h) n _) fun x=>by
  rw [yH (xd h n a),jF h,jF (yQ h),yH h]
  by_cases e:x=n
  ·
   subst e; rw [if_pos rfl,if_pos rfl]; rfl
  ·
   rw [if_neg e,if_neg e]
theorem YZ (h:zG A) {L':zl} {S':zo} {n:List UInt8} {f:U11→U11} (ho:∀ x,x≠n→yM L' x=yM L x∧xc S' x=xc S x) (hn:∀ a,qn A n=some a→xP L' S' n a=f (xP L S n a)):zm A L' S'=setU (zm A L S) n f:=by
 unfold setU
 rw [yH h]
 cases hh:qn A n with
 | none =>
  refine ext11 (yQ h) (yQ h) fun x=>?_
  show _=qn (zm A L S) x
  rw [yH h,yH h]
  by_cases e:x=n
  ·
   subst e; rw [hh]; rfl
  ·
   unfold xP; rw [(ho x e).1,(ho x e).2]
 | some a =>
  refine ext11 (yQ h) (xd (yQ h) n _) fun x=>?_
  show _=qn (yR (zm A L S) n (f (xP L S n a))) x
  rw [yH h,jF (yQ h),yH h]
  by_cases e:x=n
  ·
   subst e; rw [if_pos rfl,hh,← hn a hh]; rfl
  ·
   rw [if_neg e]; unfold xP; rw [(ho x e).1,(ho x e).2]

theorem JT {A:zu} {n:List UInt8} {a:List UInt8×Bool} (hf:A.length≤12) (h:zz A n=true):(yR A n a).length≤12:=Nat.le_trans (putV_has a h) hf
theorem zn.put (h:zn A L S k) {n:List UInt8} {a:List UInt8×Bool} (hn:zh n=true) (ha:yj a.1=true) (hf:(yR A n a).length≤12):zn (yR A n a) L S (k+1):=by
 have hk:∀ x,zz A x=true→zz (yR A n a) x=true:=fun x hx=>uO.2 (.inr hx)
 refine ⟨xd h.rise n a,hf,fun p hp=>?_,h.mir,h.all,fun x hx=>hk _ (h.has x hx),Nat.le_succ_of_le h.lfew,h.grp.mono (Nat.le_succ _),fun g m hm=>hk _ (h.mem g m hm)⟩
 rcases yJ.1 hp with rfl | ⟨hp,_⟩
 ·
  exact ⟨hn,ha⟩
 ·
  exact h.nm p hp
theorem zn.mono (h:zn A L S k) {j:Nat} (hj:k≤j):zn A L S j:=⟨h.rise,h.few,h.nm,h.mir,h.all,h.has,Nat.le_trans h.lfew hj,h.grp.mono hj,h.mem⟩
theorem XZ (h:zn A L S k) {n:List UInt8} (hn:zz A n=true):yj (qK A n)=true:=by
 obtain ⟨a,ha⟩:=je hn
 unfold qK
 rw [ha]
 exact (h.nm (n,a) ((yl h.rise).1 ha)).2

def qm (A':zu) (L':zl) (S':zo) (l':xo) (N':List (List UInt8)) (k:Nat):Prop:=zn A' L' S' k∧zm A' L' S'=l'∧zc S'=N'
theorem crF_zero {a b c d:Bool} (h:crF11 a b c d=0):a=true∧b=true∧c=false∧d=false:=by revert h; cases a <;> cases b <;> cases c <;> cases d <;> decide
theorem deF_zero {a c:Bool} (h:deF11 a c=0):a=true∧c=true:=by revert h; cases a <;> cases c <;> decide
theorem shF_zero {a b c d:Bool} (h:shF11 a b c d=0):a=true∧b=true∧c=true∧d=false:=by revert h; cases a <;> cases b <;> cases c <;> cases d <;> decide
theorem smF_zero {a b c d:Bool} (h:smF11 a b c d=0):a=true∧b=true∧c=true∧d=false:=by revert h; cases a <;> cases b <;> cases c <;> cases d <;> decide
theorem diF_zero {a c d:Bool} (h:diF11 a c d=0):a=true∧c=true∧d=false:=by revert h; cases a <;> cases c <;> cases d <;> decide
theorem Qm {a b c d:Bool} (h:rnF11 a b c d=0):a=true∧b=true∧c=true∧d=false:=by revert h; cases a <;> cases b <;> cases c <;> cases d <;> decide

theorem cr_same (n h:List UInt8):dcrE (zm A L S) n h=Jh A n h:=by unfold dcrE Jh; rw [uo,jT]
theorem cr_one (hg:zn A L S k) (n h:List UInt8):qm (crA11 A n h) L S (dcrL (zm A L S) n h) (zc S) (k+1):=by
 unfold crA11 dcrL
 rw [cr_same]
 by_cases e:Jh A n h=0
 ·
  rw [if_pos e,if_pos e]
  obtain ⟨h1,h2,h3,h4⟩:=crF_zero e
  rw [decide_eq_false_iff_not] at h4
  have hf:(yR A n (h,false)).length≤12:=by have:=ZT A n (h,false); omega
  refine ⟨hg.put h1 h2 hf,?_,rfl⟩
  rw [Qe hg.rise]
  obtain ⟨_,f2,f3⟩:=hg.free h3
  unfold xP
  rw [f2,f3]
 ·
  rw [if_neg e,if_neg e]
  exact ⟨hg.mono (Nat.le_succ _),rfl,rfl⟩
theorem de_same (n:List UInt8):ddeE (zm A L S) n=xY A n:=by unfold ddeE xY; rw [uo]
theorem de_one (hg:zn A L S k) (n:List UInt8) (e:xY A n=0):qm (xK A n) (vx L n) (qY S n) (ddeL (zm A L S) n) (zc S) (k+1):=by
 unfold ddeL
 rw [de_same,if_pos e]
 have hk:∀ x,x≠n→zz A x=true→zz (xK A n) x=true:=fun x hx h=>uP.2 ⟨h,hx⟩
 have hm:∃ M,yo (vx L n) M:=by
  obtain ⟨M,hM⟩:=hg.mir
  cases hh:yE L n with
  | true=>exact ⟨_,hM.del hh⟩
  | false=>rw [qQ hh]; exact ⟨M,hM⟩
 refine ⟨⟨yw hg.rise n,Nat.le_trans (fR A n) hg.few,fun p hp=>hg.nm p (yz.1 hp).1,hm,fun x hx=>hg.all x (yC.1 hx).1,fun x hx=>hk _ (yC.1 hx).2 (hg.has x (yC.1 hx).1),Nat.le_succ_of_le (Nat.le_trans (List.length_filter_le _ _) hg.lfew),(V3 hg.grp n).mono (Nat.le_succ _),fun g m h=>?_⟩,?_,uu (fun v=>xK v n) S⟩
 ·
  have:=(Fz hg.grp n g m).1 h
  exact hk _ this.2 (hg.mem g m this.1)
 ·
  refine ext11 (yQ (yw hg.rise n)) (yw (yQ hg.rise) n) fun x=>?_
  rw [yH (yw hg.rise n),Zo hg.rise,Zo (yQ hg.rise),yH hg.rise]
  by_cases e:x=n
  ·
   subst e; rw [if_pos rfl,if_pos rfl]; rfl
  ·
   rw [if_neg e,if_neg e]; unfold xP; rw [Zp,if_neg e,of_remove hg.grp,if_neg e]
theorem sh_same (hg:zn A L S k) (n h:List UInt8):dshE (zm A L S) n h=Ql A n h:=by unfold dshE Ql; rw [uo,tell_dis hg]
theorem sh_one (hg:zn A L S k) (n h:List UInt8):qm (shA11 A n h) L S (dshL (zm A L S) n h) (zc S) (k+1):=by
 unfold shA11 dshL
 rw [sh_same hg]
 by_cases e:Ql A n h=0
 ·
  rw [if_pos e,if_pos e]
  obtain ⟨h1,h2,h3,h4⟩:=shF_zero e
  refine ⟨hg.put h1 h2 (JT hg.few h3),?_,rfl⟩
  obtain ⟨a,ha⟩:=je h3
  rw [Qe hg.rise]
  unfold setU uj
  rw [yH hg.rise,ha]
  rfl
 ·
  rw [if_neg e,if_neg e]
  exact ⟨hg.mono (Nat.le_succ _),rfl,rfl⟩
theorem di_same (hg:zn A L S k) (n:List UInt8) (b:Bool):ddiE (zm A L S) n b=U1 A n b:=by unfold ddiE U1; rw [uo,tell_dis hg]
theorem di_one (hg:zn A L S k) (n:List UInt8) (b:Bool):qm (diA11 A n b) L S (ddiL (zm A L S) n b) (zc S) (k+1):=by
 unfold diA11 ddiL
 rw [di_same hg]
 by_cases e:U1 A n b=0
 ·
  rw [if_pos e,if_pos e]
  obtain ⟨h1,h3,h4⟩:=diF_zero e
  refine ⟨hg.put h1 (XZ hg h3) (JT hg.few h3),?_,rfl⟩
  obtain ⟨a,ha⟩:=je h3
  rw [Qe hg.rise]
  unfold setU qK
  rw [yH hg.rise,ha]
  rfl
 ·
  rw [if_neg e,if_neg e]
  exact ⟨hg.mono (Nat.le_succ _),rfl,rfl⟩
end

section
variable {A:zu} {L:zl} {S:zo} {k:Nat}
theorem Ya {n a:List UInt8} (h:yM L n=a) (ha:a≠[]):(n,a)∈L:=by
 cases hh:yE L n with
 | true=>have:=vm hh; rwa [h] at this
 | false=>rw [xm hh] at h; exact absurd h.symm ha
theorem fold_ne {m:List UInt8} (h:ve m=true):zN m≠[]:=fun e=>by
 have:=Yx m
 rw [e,h,Fo] at this; cases this
theorem bad_same (hg:zn A L S k) (n:List UInt8) {a:List UInt8} (ha:a≠[]):badU (zm A L S) n a=Jv L n a:=by
 obtain ⟨M,hM⟩:=hg.mir
 rw [Bool.eq_iff_iff]
 unfold badU Jv
 simp only [List.any_eq_true,Bool.and_eq_true,Bool.not_eq_true',beq_eq_false_iff_ne,beq_iff_eq,decide_eq_true_eq]
 constructor
 ·
  rintro ⟨p,hp,⟨_,h2⟩,h3⟩
  obtain ⟨q,hq,rfl⟩:=List.mem_map.1 hp
  have h4:(q.1,a)∈L:=Ya h2 ha
  exact ⟨Ze h4,by rw [hM.own h4]; exact h3⟩
 ·
  rintro ⟨h1,h2⟩
  have h3:=jc h1
  obtain ⟨p,hp,e⟩:=xV.1 (hg.has _ h3)
  refine ⟨_,List.mem_map.2 ⟨p,hp,rfl⟩,⟨ha,?_⟩,?_⟩
  ·
   show yM L p.1=a
   rw [e]; exact jG hg.lrise h3
  ·
   show ¬ p.1=n
   rw [e]; exact h2
theorem sm_same (hg:zn A L S k) (n m:List UInt8):dsmE (zm A L S) n m=fi A L n m:=by
 unfold dsmE fi
 rw [uo]
 cases h1:zh n with
 | false=>rfl
 | true =>
  by_cases hm:m=[]
  ·
   subst hm
   have:badU (zm A L S) n (qd [])=decide (jy L n []=9):=by
    have e1:qd []=[]:=rfl
    rw [e1]
    have e2:jy L n []=0:=by unfold jy; rw [if_pos h1,if_pos rfl]
    rw [e2]
    unfold badU
    rw [List.any_eq_false.2 (fun p _=>by simp)]
    rfl
   rw [this]
  ·
   cases h2:ve m with
   | false =>
    have:vu m=false:=by unfold vu; rw [h2,decide_eq_false hm]; rfl
    rw [this]; rfl
   | true =>
    have e1:qd m=zN m:=by unfold qd; rw [if_pos h2]
    rw [e1,bad_same hg n (fold_ne h2)]
    have:decide (jy L n m=9)=Jv L n (zN m):=by
     unfold jy
     rw [if_pos h1,if_neg hm,if_pos h2]
     cases Jv L n (zN m) <;> rfl
    rw [this]
theorem smE_zero {n m:List UInt8} (h:fi A L n m=0):zh n=true∧vu m=true∧zz A n=true∧jy L n m=0∧(m≠[]→Jv L n (zN m)=false∧ve m=true):=by
 obtain ⟨h1,h2,h3,h4⟩:=smF_zero h
 rw [decide_eq_false_iff_not] at h4
 refine ⟨h1,h2,h3,?_⟩
 unfold jy at h4 ⊢
 rw [if_pos h1] at h4 ⊢
 by_cases hm:m=[]
 ·
  rw [if_pos hm]; exact ⟨rfl,fun h=>absurd hm h⟩
 ·
  have h5:ve m=true:=by unfold vu at h2; rw [decide_eq_false hm,Bool.false_or] at h2; exact h2
  rw [if_neg hm,if_pos h5] at h4 ⊢
  cases hb:Jv L n (zN m) with
  | true=>rw [hb] at h4; exact absurd rfl h4
  | false=>exact ⟨rfl,fun _=>⟨rfl,h5⟩⟩
theorem sm_one (hg:zn A L S k) (n m:List UInt8):qm A (VB A L n m) S (dsmL (zm A L S) n m) (zc S) (k+1):=by
 unfold VB dsmL
 rw [sm_same hg]
 by_cases e:fi A L n m=0
 case neg=>rw [if_neg e,if_neg e]; exact ⟨hg.mono (Nat.le_succ _),rfl,rfl⟩
 rw [if_pos e,if_pos e]
 obtain ⟨h1,h2,h3,h4,h5⟩:=smE_zero e
 unfold Uu
 rw [if_pos h4]
 obtain ⟨M,hM⟩:=hg.mir
 have hd:∃ M,yo (vx L n) M:=by
  cases hh:yE L n with
  | true=>exact ⟨_,hM.del hh⟩
  | false=>rw [qQ hh]; exact ⟨M,hM⟩
 by_cases hm:m=[]
 ·
  subst hm
  rw [if_pos rfl]
  refine ⟨⟨hg.rise,hg.few,hg.nm,hd,fun x hx=>hg.all x (yC.1 hx).1,fun x hx=>hg.has x (yC.1 hx).1,Nat.le_succ_of_le (Nat.le_trans (List.length_filter_le _ _) hg.lfew),hg.grp.mono (Nat.le_succ _),hg.mem⟩,?_,rfl⟩
  refine YZ hg.rise (fun x hx=>⟨by rw [Zp,if_neg hx],rfl⟩) (fun a _=>?_)
  show xP (vx L n) S n a={ xP L S n a with ml:=[] }
  unfold xP
  rw [Zp,if_pos rfl]
 ·
  rw [if_neg hm]
  obtain ⟨h6,h7⟩:=h5 hm
  have hput:∃ M,yo (vl L n (zN m)) M:=by
   obtain ⟨M',hM'⟩:=hd
   rw [← put_del hg.lrise]
   exact ⟨_,hM'.put (J1 L n) (free9 hM h6)⟩
  refine ⟨⟨hg.rise,hg.few,hg.nm,hput,fun x hx=>?_,fun x hx=>?_,?_,hg.grp.mono (Nat.le_succ _),hg.mem⟩,?_,rfl⟩
  ·
   rcases vA.1 hx with rfl | ⟨hx,_⟩
   ·
    exact May9.of h1 h7
   ·
    exact hg.all x hx
  ·
   rcases vA.1 hx with rfl | ⟨hx,_⟩
   ·
    exact h3
   ·
    exact hg.has x hx
  ·
   rw [vI hg.lrise]
   have:=hg.lfew
   split <;> omega
  ·
   refine YZ hg.rise (fun x hx=>⟨by rw [X7 hg.lrise,if_neg hx],rfl⟩) (fun a _=>?_)
   show xP (vl L n (zN m)) S n a={ xP L S n a with ml:=qd m }
   unfold xP qd
   rw [X7 hg.lrise,if_pos rfl,if_pos h7]

theorem rn_same (o n:List UInt8):drnE (zm A L S) o n=Za A o n:=by unfold drnE Za; rw [uo,uo]
theorem rn_free (hg:zn A L S k) {o n:List UInt8} (e:Za A o n=0):zh o=true∧zh n=true∧zz A o=true∧zz A n=false∧o≠n∧Zd S o n=0:=by
 obtain ⟨h1,h2,h3,h4⟩:=Qm e
 refine ⟨h1,h2,h3,h4,(fun e=>by rw [e,h4] at h3; cases h3),?_⟩
 unfold Zd
 rw [if_pos h2,if_neg]
 rintro ⟨_,h⟩
 exact h (hg.free h4).2.2
theorem get_re (hg:zn A L S k) {o n:List UInt8} (e:Za A o n=0) (x:List UInt8):yM (reL9 L o n) x=if x=n then yM L o else if x=o then [] else yM L x:=by
 obtain ⟨h1,h2,h3,h4,h5,_⟩:=rn_free hg e
 obtain ⟨f1,f2,_⟩:=hg.free h4
 have hre:reE9 L o n=if yE L o then 0 else 8:=by unfold reE9; rw [if_pos h2,f1]; rfl
 unfold reL9
 rw [hre]
 cases hh:yE L o with
 | true =>
  rw [if_pos rfl,if_pos rfl,X7 (uL hg.lrise o),Zp]
 | false =>
  rw [if_neg (by decide),xm hh]
  by_cases e1:x=n
  ·
   rw [if_pos e1,e1,f2]
  ·
   rw [if_neg e1]
   by_cases e2:x=o
   ·
    rw [if_pos e2,e2,xm hh]
   ·
    rw [if_neg e2]
theorem rn_one (hg:zn A L S k) (o n:List UInt8):qm (rnA11 A o n) (rnL11 A L o n) (rnS11 A S o n) (drnL (zm A L S) o n) (zc S) (k+1):=by
 unfold rnA11 rnL11 rnS11 drnL
 rw [rn_same]
 by_cases e:Za A o n=0
 case neg=>rw [if_neg e,if_neg e,if_neg e,if_neg e]; exact ⟨hg.mono (Nat.le_succ _),rfl,rfl⟩
 rw [if_pos e,if_pos e,if_pos e,if_pos e]
 obtain ⟨h1,h2,h3,h4,h5,h6⟩:=rn_free hg e
 obtain ⟨f1,f2,f3⟩:=hg.free h4
 obtain ⟨a,ha⟩:=je h3
 have hA:qK A o=a.1:=by unfold qK; rw [ha]
 have hD:uj A o=a.2:=by unfold uj; rw [ha]
 rw [hA,hD,yH hg.rise,ha]
 show qm _ _ _ (yR (xK (zm A L S) o) n (xP L S o a)) _ _
 have hr1:=xd hg.rise n a
 have hn':zz (xK (yR A n a) o) n=true:=uP.2 ⟨uO.2 (.inl rfl),Ne.symm h5⟩
 have hk:∀ x,x≠o→zz A x=true→zz (xK (yR A n a) o) x=true:=fun x hx h=>uP.2 ⟨uO.2 (.inr h),hx⟩
 have hre:reE9 L o n=if yE L o then 0 else 8:=by unfold reE9; rw [if_pos h2,f1]; rfl
 have hlen:(xK (yR A n a) o).length≤12:=by
  have q1:=ZT A n a
  have q2:=delV_lt (L:=yR A n a) (k:=o) (uO.2 (.inr h3))
  have:=hg.few
  omega
 have hL:(∃ M,yo (reL9 L o n) M)∧(∀ x∈reL9 L o n,May9 x)∧(∀ x∈reL9 L o n,zz (xK (yR A n a) o) x.1=true)∧(reL9 L o n).length≤k+1:=by
  obtain ⟨M,hM⟩:=hg.mir
  unfold reL9
  rw [hre]
  cases hh:yE L o with
  | false =>
   rw [if_neg (by decide)]
   refine ⟨⟨M,hM⟩,hg.all,fun x hx=>hk _ (fun e=>?_) (hg.has x hx),Nat.le_succ_of_le hg.lfew⟩
   have:=QJ (n:=x.1) (a:=x.2) hx
   rw [e,hh] at this; cases this
  | true =>
   rw [if_pos rfl,if_pos rfl]
   have hm:=vm hh
   have ho:YQ (vx L o) (yM L o)=false:=by
    cases hq:YQ (vx L o) (yM L o) with
    | false=>rfl
    | true =>
     obtain ⟨q1,q2⟩:=yC.1 (jc hq)
     exact absurd (hM.one q1 hm) q2
   refine ⟨⟨_,(hM.del hh).put (by rw [XY (Ne.symm h5)]; exact f1) ho⟩,fun x hx=>?_,fun x hx=>?_,?_⟩
   ·
    rcases vA.1 hx with rfl | ⟨hx,_⟩
    ·
     exact ⟨h2,(hg.all _ hm).2⟩
    ·
     exact hg.all x (yC.1 hx).1
   ·
    rcases vA.1 hx with rfl | ⟨hx,_⟩
    ·
     exact hn'
    ·
     exact hk _ (yC.1 hx).2 (hg.has x (yC.1 hx).1)
   ·
    rw [vI (uL hg.lrise o)]
    have q1:(vx L o).length≤L.length:=List.length_filter_le _ _
    have:=hg.lfew
    split <;> omega
 refine ⟨⟨yw hr1 o,hlen,fun p hp=>?_,hL.1,hL.2.1,hL.2.2.1,hL.2.2.2,(jd hg.grp o n).mono (Nat.le_succ _),fun g m h=>?_⟩,?_,?_⟩
 ·
  rcases yJ.1 (yz.1 hp).1 with rfl | ⟨hp,_⟩
  ·
   exact ⟨h2,(hg.nm (o,a) ((yl hg.rise).1 ha)).2⟩
  ·
   exact hg.nm p hp
 ·
  rcases (Zn hg.grp h6 f3 h5 g m).1 h with ⟨rfl,_⟩ | ⟨_,h2,h3⟩
  ·
   exact hn'
  ·
   exact hk _ h2 (hg.mem g m h3)
 ·
  refine ext11 (yQ (yw hr1 o)) (xd (yw (yQ hg.rise) o) n _) fun x=>?_
  rw [yH (yw hr1 o),Zo hr1,jF hg.rise,jF (yw (yQ hg.rise) o),Zo (yQ hg.rise),yH hg.rise]
  by_cases e1:x=n
  ·
   subst e1
   rw [if_neg (Ne.symm h5),if_pos rfl,if_pos rfl]
   show some (xP _ _ x a)=_
   unfold xP
   rw [get_re hg e,if_pos rfl,Fa hg.grp h6 f3 h5,if_pos rfl]
  ·
   rw [if_neg e1,if_neg e1]
   by_cases e2:x=o
   ·
    rw [if_pos e2,if_pos e2]; rfl
   ·
    rw [if_neg e2,if_neg e2]
    unfold xP
    rw [get_re hg e,if_neg e1,if_neg e2,Fa hg.grp h6 f3 h5,if_neg e1,if_neg e2]
 ·
  unfold ZQ
  rw [if_pos h6]
  exact uu (fun v=>Zc o n v) S

theorem tell_same {S':zo} (h:∀ n,xc S' n=xc S n):zm A L S'=zm A L S:=by
 unfold zm xP
 exact List.map_congr_left fun p _=>by rw [h]
theorem ma_same (g:List UInt8):dmaE11 (zc S) g=qE S g:=by
 obtain h:ft (zc S) g=zz S g:=by rw [Bool.eq_iff_iff,qw,yK]
 unfold dmaE11 qE
 rw [h,xu]
theorem ma_one (hg:zn A L S k) (g:List UInt8):qm A L (jr S g) (zm A L S) (dmaN11 (zc S) g) (k+1):=by
 by_cases e:qE S g=0
 case neg =>
  unfold dmaN11 jr
  rw [ma_same,if_neg e,if_neg e]; exact ⟨hg.mono (Nat.le_succ _),rfl,rfl⟩
 refine ⟨⟨hg.rise,hg.few,hg.nm,hg.mir,hg.all,hg.has,Nat.le_succ_of_le hg.lfew,(FG hg.grp g).mono (Nat.le_succ _),fun x n h=>?_⟩,tell_same (of_make hg.grp e),?_⟩
 ·
  rw [in_make hg.grp e] at h; exact hg.mem x n h
 ·
  obtain ⟨M,hM⟩:=rel11 hg.grp.rise
  have:=(hM.make hg.grp e).names
  unfold dmaN11
  rw [ma_same,if_pos e,this]
theorem dr_same (g:List UInt8):ddrE11 (zc S) g=qg S g:=by
 obtain h:ft (zc S) g=zz S g:=by rw [Bool.eq_iff_iff,qw,yK]
 unfold ddrE11 qg zZ
 rw [h,List.all_nil,Bool.and_true]
theorem dr_one (hg:zn A L S k) (g:List UInt8):qm A L (fP S g) (ddrL11 (zm A L S) (zc S) g) (ddrN11 (zc S) g) (k+1):=by
 unfold ddrL11 ddrN11
 rw [dr_same]
 by_cases e:qg S g=0
 case neg =>
  unfold fP
  rw [if_neg e,if_neg e,if_neg e]; exact ⟨hg.mono (Nat.le_succ _),rfl,rfl⟩
 rw [if_pos e,if_pos e]
 refine ⟨⟨hg.rise,hg.few,hg.nm,hg.mir,hg.all,hg.has,Nat.le_succ_of_le hg.lfew,(V4 hg.grp g).mono (Nat.le_succ _),fun x n h=>hg.mem x n ((in_drop hg.grp e x n).1 h).1⟩,?_,?_⟩
 ·
  unfold dropU zm xP
  rw [List.map_map]
  exact List.map_congr_left fun p _=>by rw [of_drop hg.grp e]; rfl
 ·
  obtain ⟨M,hM⟩:=rel11 hg.grp.rise
  exact (hM.drop hg.grp e).names.symm
theorem FE (hr:zG S) (n g:List UInt8):ft (xc S n) g=ue S g n:=by
 rw [Bool.eq_iff_iff,qw,xl hr]
theorem jo_same (hg:zn A L S k) (g n:List UInt8):djoE11 (zm A L S) (zc S) g n=YO A S g n:=by
 obtain h:ft (zc S) g=zz S g:=by rw [Bool.eq_iff_iff,qw,yK]
 unfold djoE11 YO yW qF zZ mbF11
 rw [uo,h,tell_gs hg,FE hg.grp.rise]
 simp only [List.all_cons,List.all_nil,Bool.and_true]
 cases zh g <;> cases zh n <;> cases zz A n <;> cases zz S g <;> cases ue S g n <;> rfl
theorem le_same (hg:zn A L S k) (g n:List UInt8):dleE11 (zm A L S) (zc S) g n=YN A S g n:=by
 obtain h:ft (zc S) g=zz S g:=by rw [Bool.eq_iff_iff,qw,yK]
 unfold dleE11 YN yW Y7 zZ mbF11
 rw [uo,h,tell_gs hg,FE hg.grp.rise]
 simp only [List.all_cons,List.all_nil,Bool.and_true]
 cases zh g <;> cases zh n <;> cases zz A n <;> cases zz S g <;> cases ue S g n <;> rfl
theorem ahead_zero {g n:List UInt8} (h:yW A g n=0):zh g=true∧zh n=true∧zz A n=true:=by
 unfold yW at h
 revert h
 cases zh g <;> cases zh n <;> cases zz A n <;> simp
theorem joE_zero {g n:List UInt8} (h:YO A S g n=0):yW A g n=0∧qF S g n=0:=by
 unfold YO at h
 by_cases e:yW A g n=0
 ·
  rw [if_pos e] at h; exact ⟨e,h⟩
 ·
  rw [if_neg e] at h; exact absurd h e
theorem leE_zero {g n:List UInt8} (h:YN A S g n=0):yW A g n=0∧Y7 S g n=0:=by
 unfold YN at h
 by_cases e:yW A g n=0
 ·
  rw [if_pos e] at h; exact ⟨e,h⟩
 ·
  rw [if_neg e] at h; exact absurd h e
theorem joS_no {g n:List UInt8} (h:YO A S g n≠0):joS11 A S g n=S:=by
 unfold joS11
 by_cases e:yW A g n=0
 ·
  unfold YO at h
  rw [if_pos e] at h ⊢
  exact if_neg h
 ·
  rw [if_neg e]
theorem leS_no {g n:List UInt8} (h:YN A S g n≠0):leS11 A S g n=S:=by
 unfold leS11
 by_cases e:yW A g n=0
 ·
  unfold YN at h
  rw [if_pos e] at h ⊢
  exact if_neg h
 ·
  rw [if_neg e]
theorem jo_one (hg:zn A L S k) (g n:List UInt8):qm A L (joS11 A S g n) (djoL11 (zm A L S) (zc S) g n) (zc S) (k+1):=by
 unfold djoL11
 rw [jo_same hg]
 by_cases e:YO A S g n=0
 case neg=>rw [joS_no e,if_neg e]; exact ⟨hg.mono (Nat.le_succ _),rfl,rfl⟩
 rw [if_pos e]
 obtain ⟨h1,h2⟩:=joE_zero e
 obtain ⟨_,_,h3⟩:=ahead_zero h1
 unfold joS11
 rw [if_pos h1]
 refine ⟨⟨hg.rise,hg.few,hg.nm,hg.mir,hg.all,hg.has,Nat.le_succ_of_le hg.lfew,jE hg.grp g n,fun x m h=>?_⟩,?_,XU g n⟩
 ·
  rcases (QZ hg.grp h2 x m).1 h with h | ⟨_,rfl⟩
  ·
   exact hg.mem x m h
  ·
   exact h3
 ·
  refine YZ hg.rise (fun x hx=>⟨rfl,by rw [of_join hg.grp h2,if_neg hx]⟩) (fun a _=>?_)
  unfold xP
  rw [of_join hg.grp h2,if_pos rfl]
theorem le_one (hg:zn A L S k) (g n:List UInt8):qm A L (leS11 A S g n) (dleL11 (zm A L S) (zc S) g n) (zc S) (k+1):=by
 unfold dleL11
 rw [le_same hg]
 by_cases e:YN A S g n=0
 case neg=>rw [leS_no e,if_neg e]; exact ⟨hg.mono (Nat.le_succ _),rfl,rfl⟩
 rw [if_pos e]
 obtain ⟨h1,h2⟩:=leE_zero e
 unfold leS11
 rw [if_pos h1]
 refine ⟨⟨hg.rise,hg.few,hg.nm,hg.mir,hg.all,hg.has,Nat.le_succ_of_le hg.lfew,(fd hg.grp g n).mono (Nat.le_succ _),fun x m h=>hg.mem x m ((QY hg.grp h2 x m).1 h).1⟩,?_,?_⟩
 ·
  refine YZ hg.rise (fun x hx=>⟨rfl,by rw [of_leave hg.grp h2,if_neg hx]⟩) (fun a _=>?_)
  unfold xP
  rw [of_leave hg.grp h2,if_pos rfl]
 ·
  unfold Y6
  rw [if_pos h2]
  exact qL _ S g
end
end Go.Proofs.YteegkoicalbkbaaGreatDoor
namespace Go.Proofs.YteegkoicalbkbaaGreatDoor
open Go.RowKit Go.Maps
set_option linter.unusedSectionVars false

/-! ### accounts -/
def ea11:List UInt8×Bool→DataW Unit:=fun a=>.agg [.lit (.string a.1),.lit (.bool a.2)]
def rdA11:List Value→Option (DataW Unit×List MemPlace)
 | [.string s,.bool b]=>some (.agg [.lit (.string s.data.toList),.lit (.bool b)],[])
 | _=>none
def RA11:Value→Option (DataW Unit×List MemPlace)
 | .agg c=>rdA11 c.toList
 | _=>none
theorem ra11_inv {v:Value} {z:DataW Unit×List MemPlace} (h:RA11 v=some z):∃ s b,v=.agg #[.string s,.bool b]∧z=(ea11 (s.data.toList,b),[]):=by
 unfold RA11 at h
 split at h
 ·
  rename_i c
  unfold rdA11 at h
  split at h
  ·
   rename_i s b hc
   injection h with h
   refine ⟨s,b,?_,h.symm⟩
   have:c=[Value.string s,Value.bool b].toArray:=by rw [← hc]
   rw [this]
  ·
   cases h
 ·
  cases h
theorem ra11_at (s:ByteArray) (b:Bool):RA11 (.agg #[.string s,.bool b])=some (ea11 (s.data.toList,b),[]):=rfl
def yO (w:World) (P:Nat) (A:zu):Prop:=w.ownsMap Tryz.prog 9 RA11 P A.length (uA ea11 A)
theorem yO.of {w:World} {P n:Nat} {A:zu} (h:w.ownsMap Tryz.prog 9 RA11 P n (uA ea11 A)):yO w P A:=by
 have:=vT h
 rwa [vy] at this
theorem yO.kept {w w':World} {P:Nat} {A:zu} (h:yO w P A) (hb:w'.heap[P]? = w.heap[P]?):yO w' P A:=by
 obtain ⟨es,clock,h1,r⟩:=h
 exact ⟨es,clock,hb.trans h1,r⟩
theorem yO.lt {w:World} {P:Nat} {A:zu} (h:yO w P A):P<w.heap.size:=World.ownsMap.lt h
theorem ZJ (w:World):(zeroValue 283).run Tryz.prog w=.ok (.agg #[.string ⟨#[]⟩,.bool false]) w:=by kernel_rfl
theorem at_acc11 (A:zu) (k:List UInt8):(uA ea11 A).atKey (.string k) (ea11 ([],false))=ea11 (qK A k,uj A k):=by
 unfold qK uj
 cases h:qn A k with
 | none=>rw [Jq _ h]
 | some v=>rw [X8 _ h]
theorem accs11_made (w:World):yO (w.alloc (.map #[] 0)) w.heap.size [] :=
 yO.of (n:=0) (World.ownsMap_made (H:=Unit) w Tryz.prog 9 RA11)
def av11 (A:zu) (k:List UInt8):Value:=.agg #[.string (yf (qK A k)),.bool (uj A k)]
section
variable {w:World} {P:Nat} {A:zu}
theorem acc11_v {s:ByteArray} {v:Value} {ps:List MemPlace} (hv:RA11 v=some ((uA ea11 A).atKey (.string s.data.toList) (ea11 ([],false)),ps)):v=av11 A s.data.toList:=by
 obtain ⟨c,b,rfl,hc⟩:=ra11_inv hv
 rw [at_acc11] at hc
 injection hc with hc _
 unfold ea11 at hc
 injection hc with hc
 injection hc with h1 h2
 injection h1 with h1
 injection h1 with h1
 injection h2 with h2 _
 injection h2 with h2
 injection h2 with h2
 have h1':qK A s.data.toList=c.data.toList:=h1
 have h2':uj A s.data.toList=b:=h2
 unfold av11
 rw [h1',h2',uV]
theorem lookA11 (h:yO w P A) (s:ByteArray) (hs:s.size≤maxLen) :
  (Instr.lookup 236 (.map (some P)) (.string s) true).run Tryz.prog w=.ok (.tuple #[av11 A s.data.toList,.bool (zz A s.data.toList)]) w:=by
 obtain ⟨v,ps,hrun,hv⟩:=World.ownsMap.look_ok h xF Tryz.underlying236 (ZJ w) (ra11_at ⟨#[]⟩ false) (Zl s hs)
 rw [hrun,Zv,acc11_v hv]
theorem lookA111 (h:yO w P A) (s:ByteArray) (hs:s.size≤maxLen) :
  (Instr.lookup 236 (.map (some P)) (.string s) false).run Tryz.prog w=.ok (av11 A s.data.toList) w:=by
 obtain ⟨v,ps,hrun,hv⟩:=World.ownsMap.lookup h xF Tryz.underlying236 (ZJ w) (ra11_at ⟨#[]⟩ false) (Zl s hs)
 rw [hrun,acc11_v hv]
theorem lenA11 (h:yO w P A) (ty:TypeId):(Builtin.len_ #[236] ty #[.map (some P)]).run Tryz.prog w=.ok (.int .i64 A.length) w:=by
 have:=World.ownsMap.len h (t:=236) Tryz.underlying236 ty
 rwa [vy] at this
theorem storeA11 (h:yO w P A) (hf:A.length≤1000) (s v:ByteArray) (b:Bool) (hs:s.size≤maxLen) :
  ∃ w',(Instr.mapUpdate 236 (.map (some P)) (.string s) (.agg #[.string v,.bool b])).run Tryz.prog w=.ok () w'∧yO w' P (yR A s.data.toList (v.data.toList,b))∧w.mapTurned w' P:=by
 obtain ⟨w',hrun,hown,ht⟩:=World.ownsMap.store h xF Tryz.underlying236 (Nat.lt_of_le_of_lt hf (by decide)) (Zl s hs) (ra11_at v b)
 rw [Jc] at hown
 exact ⟨w',hrun,yO.of hown,ht⟩
theorem dropA11 (h:yO w P A) (s:ByteArray) (hs:s.size≤maxLen) (ty:TypeId) :
  ∃ w',(Builtin.delete_ #[236,9] ty #[.map (some P),.string s]).run Tryz.prog w=.ok (.tuple #[]) w'∧yO w' P (xK A s.data.toList)∧w.mapTurned w' P:=by
 obtain ⟨w',hrun,hown,ht⟩:=World.ownsMap.drop h xF Tryz.underlying236 (Zl s hs) ty
 rw [Je] at hown
 exact ⟨w',hrun,yO.of hown,ht⟩
end

/-! ### the directory -/
def js (M:Nat) (p q:Option Nat) (i:Nat):Prop:=i=M∨p=some i∨q=some i
def jt (G:Nat) (pg:Option Nat) (T:zp) (i:Nat):Prop:=i=G∨pg=some i∨∃ x∈T,x.2.1=i
structure ye (w:World) (D P:Nat) (A:zu) (M:Nat) (p q:Option Nat) (L LM:zl) (G:Nat) (pg:Option Nat) (T:zp):Prop where
 blk:w.heap[D]? = some (.cells #[.map (some P),.pointer (some ⟨M,0,none⟩),.pointer (some ⟨G,0,none⟩)] 240 (0,0))
 acc:yO w P A
 idx:ua w M p q L LM
 grp:zO w G pg T
 sep1:∀ i,js M p q i→i≠P
 sep2:∀ i,jt G pg T i→i≠P
 sep3:∀ i,js M p q i→jt G pg T i→False

def yF (W w':World):Prop:=∀ (k:Nat) (c:Array Value) (T:TypeId) (fr:Nat×Nat),W.heap[k]? = some (.cells c T fr)→T≠240→T≠290→T≠278→w'.heap[k]? = some (.cells c T fr)
theorem yF.of_below {W w':World} (hb:Below W.heap.size W w'):yF W w':=fun k _ _ _ h _ _ _=>(hb.block k (Array.getElem?_eq_some_iff.1 h).1).trans h
theorem yF.trans {a b c:World} (h:yF a b) (k:yF b c):yF a c:=fun i x T fr hi h1 h2 h3=>k i x T fr (h i x T fr hi h1 h2 h3) h1 h2 h3
theorem yF.refl (w:World):yF w w:=fun _ _ _ _ h _ _ _=>h

section
variable {w w':World} {D P M G:Nat} {A A':zu} {p q pg:Option Nat} {L LM L':zl} {T:zp}
theorem ye.lt (h:ye w D P A M p q L LM G pg T):D<w.heap.size:=(Array.getElem?_eq_some_iff.1 h.blk).1
theorem ul {b c:Nat} {x y:Array Value} {X Y:TypeId} {f g:Nat×Nat} (hb:w.heap[b]? = some (.cells x X f)) (hc:w.heap[c]? = some (.cells y Y g)) (hne:X≠Y):b≠c:=fun e=>by
 subst e; rw [hb] at hc; injection hc with hc; injection hc with _ h; exact hne h
theorem ZC {c:Array Value} {X:TypeId} {fr:Nat×Nat} {B:Nat} (h:yO w P A) (hB:w.heap[B]? = some (.cells c X fr)):P≠B:=zP h hB
theorem Zq (h:ua w M p q L LM) {B:Nat} {c:Array Value} {X:TypeId} {fr:Nat×Nat} (hB:w.heap[B]? = some (.cells c X fr)) (hX:X≠290):¬ js M p q B:=by
 rintro (e | e | e)
 ·
  exact ul hB h.blk hX e
 ·
  exact vK (h.mapp.map B e) hB rfl
 ·
  exact vK (h.mapq.map B e) hB rfl
theorem Zr (h:zO w G pg T) {B:Nat} {c:Array Value} {X:TypeId} {fr:Nat×Nat} (hB:w.heap[B]? = some (.cells c X fr)) (hX:X≠278):¬ jt G pg T B:=by
 rintro (e | e | ⟨x,hx,e⟩)
 ·
  exact ul hB h.blk hX e
 ·
  exact zP (h.map B e) hB rfl
 ·
  subst e; exact zP (h.sets x hx) hB rfl
theorem fpM_lt (h:ua w M p q L LM) {i:Nat} (hi:js M p q i):i<w.heap.size:=by
 rcases hi with rfl | e | e
 ·
  exact h.lt
 ·
  exact h.plt i e
 ·
  exact h.qlt i e
theorem fpG_lt (h:zO w G pg T) {i:Nat} (hi:jt G pg T i):i<w.heap.size:=by
 rcases hi with rfl | e | ⟨x,hx,rfl⟩
 ·
  exact h.lt
 ·
  exact h.mlt i e
 ·
  exact h.slt x hx
theorem ua.turnsF {F:Nat→Prop} (h:ua w M p q L LM) (ht:zg F w w') (hn:∀ i,js M p q i→¬ F i):ua w' M p q L LM :=
 h.turns ht (hn M (.inl rfl)) (fun b e=>hn b (.inr (.inl e))) (fun b e=>hn b (.inr (.inr e)))
theorem zO.turnsF {F:Nat→Prop} (h:zO w G pg T) (ht:zg F w w') (hn:∀ i,jt G pg T i→¬ F i):zO w' G pg T :=
 h.turns ht (hn G (.inl rfl)) (fun b e=>hn b (.inr (.inl e))) (fun x hx=>hn _ (.inr (.inr ⟨x,hx,rfl⟩)))
theorem ye.later (h:ye w D P A M p q L LM G pg T) (hb:Below w.heap.size w w'):ye w' D P A M p q L LM G pg T :=
 ⟨(hb.block D h.lt).trans h.blk,h.acc.kept (hb.block P h.acc.lt),h.idx.later hb,h.grp.later hb,h.sep1,h.sep2,h.sep3⟩
theorem ye.accs (h:ye w D P A M p q L LM G pg T) (ha:yO w' P A') (ht:zg (fun i=>i=P) w w'):ye w' D P A' M p q L LM G pg T :=
 ⟨(ht.block D h.lt (fun e=>ZC h.acc h.blk e.symm)).trans h.blk,ha,h.idx.turnsF ht h.sep1,h.grp.turnsF ht h.sep2,h.sep1,h.sep2,h.sep3⟩
theorem keeps_accs (h:ye w D P A M p q L LM G pg T) (ht:zg (fun i=>i=P) w w'):yF w w':=fun k _ _ _ hk _ _ _ =>
 (ht.block k (Array.getElem?_eq_some_iff.1 hk).1 (fun e=>ZC h.acc hk e.symm)).trans hk
theorem ye.mails (h:ye w D P A M p q L LM G pg T) (hg:uc w M p q L' w'):∃ p' q' LM',ye w' D P A M p' q' L' LM' G pg T∧∀ i,js M p' q' i→js M p q i∨w.heap.size≤i:=by
 obtain ⟨p',q',M',hi,hp,hq,ht⟩:=hg
 have hf:∀ i,js M p' q' i→js M p q i∨w.heap.size≤i:=by
  rintro i (rfl | e | e)
  ·
   exact .inl (.inl rfl)
  ·
   exact (hp i e).imp (fun h=>.inr (.inl h)) id
  ·
   exact (hq i e).imp (fun h=>.inr (.inr h)) id
 have ht':zg (js M p q) w w':=ht
 refine ⟨p',q',M',⟨(ht'.block D h.lt (Zq h.idx h.blk (by decide))).trans h.blk,h.acc.kept (ht'.block P h.acc.lt (fun f=>h.sep1 P f rfl)),hi,h.grp.turnsF ht' (fun i g f=>h.sep3 i f g),fun i f=>?_,h.sep2,fun i f g=>?_⟩,hf⟩
 ·
  rcases hf i f with f | f
  ·
   exact h.sep1 i f
  ·
   have:=h.acc.lt; omega
 ·
  rcases hf i f with f | f
  ·
   exact h.sep3 i f g
  ·
   have:=fpG_lt h.grp g; omega
theorem XS (h:ye w D P A M p q L LM G pg T) (hg:uc w M p q L' w'):yF w w':=by
 obtain ⟨_,_,_,_,_,_,ht⟩:=hg
 exact fun k c X fr hk _ h2 _=>(zg.block ht k (Array.getElem?_eq_some_iff.1 hk).1 (Zq h.idx hk h2)).trans hk
theorem ye.grps (h:ye w D P A M p q L LM G pg T) {S':zo} (hg:zR w G pg T S' w'):∃ pg' T',ye w' D P A M p q L LM G pg' T'∧z8 T'=S'∧∀ i,jt G pg' T' i→jt G pg T i∨w.heap.size≤i:=by
 obtain ⟨p',T',hi,hS,hp,hx,ht⟩:=hg
 have hf:∀ i,jt G p' T' i→jt G pg T i∨w.heap.size≤i:=by
  rintro i (rfl | e | ⟨x,hxx,rfl⟩)
  ·
   exact .inl (.inl rfl)
  ·
   exact (hp i e).imp (fun h=>.inr (.inl h)) id
  ·
   rcases hx x hxx with ⟨y,hy,e⟩ | h
   ·
    exact .inl (.inr (.inr ⟨y,hy,e⟩))
   ·
    exact .inr h
 have ht':zg (jt G pg T) w w':=ht
 refine ⟨p',T',⟨(ht'.block D h.lt (Zr h.grp h.blk (by decide))).trans h.blk,h.acc.kept (ht'.block P h.acc.lt (fun f=>h.sep2 P f rfl)),h.idx.turnsF ht' (fun i f g=>h.sep3 i f g),hi,h.sep1,fun i f=>?_,fun i f g=>?_⟩,hS,hf⟩
 ·
  rcases hf i f with f | f
  ·
   exact h.sep2 i f
  ·
   have:=h.acc.lt; omega
 ·
  rcases hf i g with g | g
  ·
   exact h.sep3 i f g
  ·
   have:=fpM_lt h.idx f; omega
theorem keeps_grps (h:ye w D P A M p q L LM G pg T) {S':zo} (hg:zR w G pg T S' w'):yF w w':=by
 obtain ⟨_,_,_,_,_,_,ht⟩:=hg
 exact fun k c X fr hk _ _ h3=>(zg.block ht k (Array.getElem?_eq_some_iff.1 hk).1 (Zr h.grp hk h3)).trans hk
end

class Fr11 where
 F:Nat→Prop
 ob:Nat→Option Obj
 n:Nat
 lt:∀ i,F i→i<n
 ty:∀ i c T fr,F i→ob i=some (.cells c T fr)→T=240∨T=290∨T=278
instance noFr11:Fr11:=⟨fun _=>False,fun _=>none,0,fun _ h=>h.elim,fun _ _ _ _ h=>h.elim⟩
def Lo11 [Fr11] (w0:World) (i:Nat):Prop:=w0.heap.size≤i∧¬ Fr11.F i
def Fk11 [Fr11] (W:World):Prop:=Fr11.n≤W.heap.size∧∀ i,Fr11.F i→W.heap[i]? = Fr11.ob i
def Yo [Fr11] (w0 W:World):Prop:=Below w0.heap.size w0 W∧Fk11 W
section
variable [Fr11] {w0 W W':World}
theorem Fk11.later (h:Fk11 W) (hb:Below W.heap.size W W'):Fk11 W':=⟨Nat.le_trans h.1 hb.size,fun i hi=>(hb.block i (Nat.lt_of_lt_of_le (Fr11.lt i hi) h.1)).trans (h.2 i hi)⟩
theorem Fk11.turn {S:Nat→Prop} (h:Fk11 W) (ht:zg S W W') (hs:∀ i,S i→¬ Fr11.F i):Fk11 W':=⟨Nat.le_trans h.1 ht.size,fun i hi=>(ht.block i (Nat.lt_of_lt_of_le (Fr11.lt i hi) h.1) (fun e=>hs i e hi)).trans (h.2 i hi)⟩
theorem Fk11.not (h:Fk11 W) {i:Nat} {c:Array Value} {T:TypeId} {fr:Nat×Nat} (hi:W.heap[i]? = some (.cells c T fr)) (h1:T≠240) (h2:T≠290) (h3:T≠278):¬ Fr11.F i:=fun f=>by
 rcases Fr11.ty i c T fr f ((h.2 i f).symm.trans hi) with h | h | h
 ·
  exact h1 h
 ·
  exact h2 h
 ·
  exact h3 h
theorem Yo.later (h:Yo w0 W) (hb:Below W.heap.size W W'):Yo w0 W':=⟨z7 h.1 hb,h.2.later hb⟩
theorem Yo.turn {S:Nat→Prop} (h:Yo w0 W) (ht:zg S W W') (hs:∀ i,S i→Lo11 w0 i):Yo w0 W':=⟨h.1.trans (zg.below_at ht h.1.size (fun i e=>(hs i e).1)),h.2.turn ht (fun i e=>(hs i e).2)⟩
theorem Yo.new (h:Yo w0 W) {i:Nat} (hi:W.heap.size≤i):Lo11 w0 i:=⟨Nat.le_trans h.1.size hi,fun f=>by have:=Fr11.lt i f; have:=h.2.1; omega⟩
end

def zt [Fr11] (w0 W:World) (D P M G:Nat) (A:zu) (L:zl) (S:zo):Prop :=
 ∃ p q LM pg T,ye W D P A M p q L LM G pg T∧z8 T=S∧(∀ i,i=D∨i=P∨js M p q i∨jt G pg T i→Lo11 w0 i)∧Yo w0 W
def zE [Fr11] (w0 W:World) (D P M G:Nat) (A:zu) (L:zl) (S:zo) (w':World):Prop:=zt w0 w' D P M G A L S∧yF W w'
section
variable [Fr11] {w0 W W':World} {D P M G:Nat} {A A':zu} {L L':zl} {S S':zo}
theorem zt.bel (h:zt w0 W D P M G A L S):Yo w0 W:=by obtain ⟨_,_,_,_,_,_,_,_,h⟩:=h; exact h
theorem zt.below (h:zt w0 W D P M G A L S):Below w0.heap.size w0 W:=h.bel.1
theorem zt.later (h:zt w0 W D P M G A L S) (hb:Below W.heap.size W W'):zt w0 W' D P M G A L S:=by
 obtain ⟨p,q,LM,pg,T,hd,hS,h2,h3⟩:=h
 exact ⟨p,q,LM,pg,T,hd.later hb,hS,h2,h3.later hb⟩
theorem zt.still (h:zt w0 W D P M G A L S) (hb:Below W.heap.size W W'):zE w0 W D P M G A L S W':=⟨h.later hb,yF.of_below hb⟩
theorem zE.ahead {W1:World} (hb:Below W.heap.size W W1) (h:zE w0 W1 D P M G A L S W'):zE w0 W D P M G A L S W':=⟨h.1,(yF.of_below hb).trans h.2⟩
theorem zE.next {W1:World} {A1:zu} {L1:zl} {S1:zo} (h1:zE w0 W D P M G A1 L1 S1 W1) (h:zE w0 W1 D P M G A L S W'):zE w0 W D P M G A L S W':=⟨h.1,h1.2.trans h.2⟩
theorem zt.c0 (h:zt w0 W D P M G A L S):W.cell? ⟨D,0,none⟩=some (.map (some P)):=by
 obtain ⟨p,q,LM,pg,T,hd,_⟩:=h
 simp [World.cell?,hd.blk]
theorem zt.c1 (h:zt w0 W D P M G A L S):W.cell? ⟨D,1,none⟩=some (.pointer (some ⟨M,0,none⟩)):=by
 obtain ⟨p,q,LM,pg,T,hd,_⟩:=h
 simp [World.cell?,hd.blk]
theorem zt.c2 (h:zt w0 W D P M G A L S):W.cell? ⟨D,2,none⟩=some (.pointer (some ⟨G,0,none⟩)):=by
 obtain ⟨p,q,LM,pg,T,hd,_⟩:=h
 simp [World.cell?,hd.blk]
theorem zt.look (h:zt w0 W D P M G A L S) (s:ByteArray) (hs:s.size≤9223372036854775807) :
  (Instr.lookup 236 (.map (some P)) (.string s) true).run Tryz.prog W=.ok (.tuple #[av11 A s.data.toList,.bool (zz A s.data.toList)]) W:=by
 obtain ⟨p,q,LM,pg,T,hd,_⟩:=h
 exact lookA11 hd.acc s (Nat.le_trans hs (by decide))
theorem zt.look1 (h:zt w0 W D P M G A L S) (s:ByteArray) (hs:s.size≤9223372036854775807) :
  (Instr.lookup 236 (.map (some P)) (.string s) false).run Tryz.prog W=.ok (av11 A s.data.toList) W:=by
 obtain ⟨p,q,LM,pg,T,hd,_⟩:=h
 exact lookA111 hd.acc s (Nat.le_trans hs (by decide))
theorem zt.lenA (h:zt w0 W D P M G A L S) (ty:TypeId):(Builtin.len_ #[236] ty #[.map (some P)]).run Tryz.prog W=.ok (.int .i64 A.length) W:=by
 obtain ⟨p,q,LM,pg,T,hd,_⟩:=h
 exact lenA11 hd.acc ty
theorem zt.accs (h:zt w0 W D P M G A L S) (ha:yO W' P A') (ht:W.mapTurned W' P):zE w0 W D P M G A' L S W':=by
 obtain ⟨p,q,LM,pg,T,hd,hS,h2,h3⟩:=h
 have ht':zg (fun i=>i=P) W W':=(zg.refl _ W).grown ht.grown (fun k hk _=>by cases hk; rfl)
 exact ⟨⟨p,q,LM,pg,T,hd.accs ha ht',hS,h2,h3.turn ht' (fun i e=>h2 i (.inr (.inl e)))⟩,keeps_accs hd ht'⟩
theorem zt.store (h:zt w0 W D P M G A L S) (hf:A.length≤1000) (s v:ByteArray) (b:Bool) (hs:s.size≤9223372036854775807) :
  ∃ w',(Instr.mapUpdate 236 (.map (some P)) (.string s) (.agg #[.string v,.bool b])).run Tryz.prog W=.ok () w'∧zE w0 W D P M G (yR A s.data.toList (v.data.toList,b)) L S w':=by
 have h':=h
 obtain ⟨p,q,LM,pg,T,hd,_⟩:=h'
 obtain ⟨w',hrun,ha,ht⟩:=storeA11 hd.acc hf s v b (Nat.le_trans hs (by decide))
 exact ⟨w',hrun,h.accs ha ht⟩
theorem zt.drop (h:zt w0 W D P M G A L S) (s:ByteArray) (hs:s.size≤9223372036854775807) (ty:TypeId) :
  ∃ w',(Builtin.delete_ #[236,9] ty #[.map (some P),.string s]).run Tryz.prog W=.ok (.tuple #[]) w'∧zE w0 W D P M G (xK A s.data.toList) L S w':=by
 have h':=h
 obtain ⟨p,q,LM,pg,T,hd,_⟩:=h'
 obtain ⟨w',hrun,ha,ht⟩:=dropA11 hd.acc s (Nat.le_trans hs (by decide)) ty
 exact ⟨w',hrun,h.accs ha ht⟩
/-! ### of the addresses -/
theorem zt.mset (h:zt w0 W D P M G A L S) (n m:ByteArray) (hn:n.size≤9223372036854775807) (hm:m.size≤9223372036854775807) (hl:L.length<100) (h5:vY W) :
  Calls Tryz.prog 226 #[.pointer (some ⟨M,0,none⟩),.string n,.string m] W fun e w'=>e=.returned (.int .i64 (jy L n.data.toList m.data.toList))∧zE w0 W D P M G A (Uu L n.data.toList m.data.toList) S w':=by
 obtain ⟨p,q,LM,pg,T,hd,hS,h2,h3⟩:=h
 refine (set9_calls M p q L LM n m W hd.idx hn hm hl h5).mono fun e w' ⟨he,hg⟩=>⟨he,?_,XS hd hg⟩
 obtain ⟨p',q',LM',hd',hf⟩:=hd.mails hg
 obtain ⟨_,_,_,_,_,_,ht⟩:=hg
 refine ⟨p',q',LM',pg,T,hd',hS,fun i hi=>?_,h3.turn ht (fun i e=>h2 i (.inr (.inr (.inl e))))⟩
 rcases hi with e | e | e | e
 ·
  exact h2 i (.inl e)
 ·
  exact h2 i (.inr (.inl e))
 ·
  rcases hf i e with e | e
  ·
   exact h2 i (.inr (.inr (.inl e)))
  ·
   exact h3.new e
 ·
  exact h2 i (.inr (.inr (.inr e)))
theorem zt.goesM (h:zt w0 W D P M G A L S) {p q:Option Nat} {LM:zl} {pg:Option Nat} {T:zp} (hd:ye W D P A M p q L LM G pg T) (hS:z8 T=S) (h2:∀ i,i=D∨i=P∨js M p q i∨jt G pg T i→Lo11 w0 i) (hg:uc W M p q L' W'):zE w0 W D P M G A L' S W':=by
 have h3:=h.bel
 refine ⟨?_,XS hd hg⟩
 obtain ⟨p',q',LM',hd',hf⟩:=hd.mails hg
 obtain ⟨_,_,_,_,_,_,ht⟩:=hg
 refine ⟨p',q',LM',pg,T,hd',hS,fun i hi=>?_,h3.turn ht (fun i e=>h2 i (.inr (.inr (.inl e))))⟩
 rcases hi with e | e | e | e
 ·
  exact h2 i (.inl e)
 ·
  exact h2 i (.inr (.inl e))
 ·
  rcases hf i e with e | e
  ·
   exact h2 i (.inr (.inr (.inl e)))
  ·
   exact h3.new e
 ·
  exact h2 i (.inr (.inr (.inr e)))
theorem zt.mrename (h:zt w0 W D P M G A L S) (o n:ByteArray) (ho:o.size≤9223372036854775807) (hn:n.size≤9223372036854775807) :
  Calls Tryz.prog 362 #[.pointer (some ⟨M,0,none⟩),.string o,.string n] W fun e w'=>e=.returned (.int .i64 (reE9 L o.data.toList n.data.toList))∧zE w0 W D P M G A (reL9 L o.data.toList n.data.toList) S w':=by
 have h':=h
 obtain ⟨p,q,LM,pg,T,hd,hS,h2,h3⟩:=h'
 exact (Qq M p q L LM o n W hd.idx ho hn).mono fun e w' ⟨he,hg⟩=>⟨he,h.goesM hd hS h2 hg⟩
theorem zt.mdrop (h:zt w0 W D P M G A L S) (n:ByteArray) (hn:n.size≤9223372036854775807) :
  Calls Tryz.prog 239 #[.pointer (some ⟨M,0,none⟩),.string n] W fun e w'=>e=.returned (.bool (yE L n.data.toList))∧zE w0 W D P M G A (vx L n.data.toList) S w':=by
 have h':=h
 obtain ⟨p,q,LM,pg,T,hd,hS,h2,h3⟩:=h'
 refine (jf M p q L LM n W hd.idx (Nat.le_trans hn (by decide))).mono fun e w' ⟨he,⟨M',hi⟩,ht⟩=>⟨he,h.goesM hd hS h2 ?_⟩
 exact ⟨p,q,M',hi,fun _ e=>.inl e,fun _ e=>.inl e,ht⟩
theorem zt.mof (h:zt w0 W D P M G A L S) (n:ByteArray) (hn:n.size≤9223372036854775807) :
  Calls Tryz.prog 375 #[.pointer (some ⟨M,0,none⟩),.string n] W fun e w'=>e=.returned (.tuple #[.string (tx7 (yM L n.data.toList)),.bool (yE L n.data.toList)])∧w'=W:=by
 obtain ⟨p,q,LM,pg,T,hd,_⟩:=h
 exact of9_calls M p q L LM n W hd.idx (Nat.le_trans hn (by decide))
theorem zt.mfind (h:zt w0 W D P M G A L S) (n:ByteArray) (hn:n.size≤9223372036854775807) (h5:vY W) :
  Calls Tryz.prog 372 #[.pointer (some ⟨M,0,none⟩),.string n] W fun e w'=>e=.returned (.tuple #[.string (tx7 (fiS9 L n.data.toList)),.int .i64 (fiE9 L n.data.toList)])∧Below W.heap.size W w':=by
 obtain ⟨p,q,LM,pg,T,hd,_⟩:=h
 exact find9_calls M p q L LM n W hd.idx hn h5
/-! ### of the groups -/
theorem zt.goesG (h:zt w0 W D P M G A L S) {p q:Option Nat} {LM:zl} {pg:Option Nat} {T:zp} (hd:ye W D P A M p q L LM G pg T) (h2:∀ i,i=D∨i=P∨js M p q i∨jt G pg T i→Lo11 w0 i) (hg:zR W G pg T S' W'):zE w0 W D P M G A L S' W':=by
 have h3:=h.bel
 refine ⟨?_,keeps_grps hd hg⟩
 obtain ⟨pg',T',hd',hS,hf⟩:=hd.grps hg
 obtain ⟨_,_,_,_,_,_,ht⟩:=hg
 refine ⟨p,q,LM,pg',T',hd',hS,fun i hi=>?_,h3.turn ht (fun i e=>h2 i (.inr (.inr (.inr e))))⟩
 rcases hi with e | e | e | e
 ·
  exact h2 i (.inl e)
 ·
  exact h2 i (.inr (.inl e))
 ·
  exact h2 i (.inr (.inr (.inl e)))
 ·
  rcases hf i e with e | e
  ·
   exact h2 i (.inr (.inr (.inr e)))
  ·
   exact h3.new e
theorem few11 {T:zp} {k:Nat} (hg:zD (z8 T) k):T.length≤6:=by have:=hg.few; rwa [uZ] at this
theorem QL {T:zp} {k:Nat} (hg:zD (z8 T) k) (hk:k≤900):∀ x∈T,x.2.2.length≤1000:=fun x hx=>by
 have:=hg.little (x.1,x.2.2) (List.mem_map.2 ⟨x,hx,rfl⟩)
 exact Nat.le_trans this (by omega)
theorem named11 {T:zp} {k:Nat} (hg:zD (z8 T) k):∀ x∈T,x.1.length≤1000:=fun x hx=>by
 have:=qN (hg.named (x.1,x.2.2) (List.mem_map.2 ⟨x,hx,rfl⟩))
 exact Nat.le_trans this (by omega)
theorem rises11 {T:zp} {k:Nat} (hg:zD (z8 T) k):∀ x∈T,zG x.2.2:=fun x hx=>hg.sets (x.1,x.2.2) (List.mem_map.2 ⟨x,hx,rfl⟩)
variable {k:Nat}
theorem zt.gmake (h:zt w0 W D P M G A L S) (hk:zD S k) (g:ByteArray) (hg:g.size≤9223372036854775807) :
  Calls Tryz.prog 160 #[.pointer (some ⟨G,0,none⟩),.string g] W fun e w'=>e=.returned (.int .i64 (qE S g.data.toList))∧zE w0 W D P M G A L (jr S g.data.toList) w':=by
 have h':=h
 obtain ⟨p,q,LM,pg,T,hd,rfl,h2,h3⟩:=h'
 exact (Fm G pg T g W hd.grp (few11 hk) hg).mono fun e w' ⟨he,hgo⟩=>⟨he,h.goesG hd h2 hgo⟩
theorem zt.gdrop (h:zt w0 W D P M G A L S) (g:ByteArray) (hg:g.size≤9223372036854775807) :
  Calls Tryz.prog 364 #[.pointer (some ⟨G,0,none⟩),.string g] W fun e w'=>e=.returned (.int .i64 (qg S g.data.toList))∧zE w0 W D P M G A L (fP S g.data.toList) w':=by
 have h':=h
 obtain ⟨p,q,LM,pg,T,hd,rfl,h2,h3⟩:=h'
 exact (FR G pg T g W hd.grp hg).mono fun e w' ⟨he,hgo⟩=>⟨he,h.goesG hd h2 hgo⟩
theorem zt.gjoin (h:zt w0 W D P M G A L S) (hk:zD S k) (h9:k≤900) (g n:ByteArray) (hg:g.size≤9223372036854775807) (hn:n.size≤9223372036854775807) :
  Calls Tryz.prog 200 #[.pointer (some ⟨G,0,none⟩),.string g,.string n] W fun e w'=>e=.returned (.int .i64 (qF S g.data.toList n.data.toList))∧zE w0 W D P M G A L (jb S g.data.toList n.data.toList) w':=by
 have h':=h
 obtain ⟨p,q,LM,pg,T,hd,rfl,h2,h3⟩:=h'
 exact (Ft G pg T g n W hd.grp (QL hk h9) hg hn).mono fun e w' ⟨he,hgo⟩=>⟨he,h.goesG hd h2 hgo⟩
theorem zt.gleave (h:zt w0 W D P M G A L S) (g n:ByteArray) (hg:g.size≤9223372036854775807) (hn:n.size≤9223372036854775807) :
  Calls Tryz.prog 365 #[.pointer (some ⟨G,0,none⟩),.string g,.string n] W fun e w'=>e=.returned (.int .i64 (Y7 S g.data.toList n.data.toList))∧zE w0 W D P M G A L (Y6 S g.data.toList n.data.toList) w':=by
 have h':=h
 obtain ⟨p,q,LM,pg,T,hd,rfl,h2,h3⟩:=h'
 exact (QO G pg T g n W hd.grp hg hn).mono fun e w' ⟨he,hgo⟩=>⟨he,h.goesG hd h2 hgo⟩
theorem zt.grename (h:zt w0 W D P M G A L S) (hk:zD S k) (h9:k≤900) (o n:ByteArray) (ho:o.size≤9223372036854775807) (hn:n.size≤9223372036854775807) :
  Calls Tryz.prog 363 #[.pointer (some ⟨G,0,none⟩),.string o,.string n] W fun e w'=>e=.returned (.int .i64 (Zd S o.data.toList n.data.toList))∧zE w0 W D P M G A L (ZQ S o.data.toList n.data.toList) w':=by
 have h':=h
 obtain ⟨p,q,LM,pg,T,hd,rfl,h2,h3⟩:=h'
 have hf:=few11 hk
 exact (VG G pg T o n W hd.grp (by omega) (named11 hk) (QL hk h9) ho hn).mono fun e w' ⟨he,hgo⟩=>⟨he,h.goesG hd h2 hgo⟩
theorem zt.gremove (h:zt w0 W D P M G A L S) (hk:zD S k) (n:ByteArray) (hn:n.size≤9223372036854775807) :
  Calls Tryz.prog 320 #[.pointer (some ⟨G,0,none⟩),.string n] W fun e w'=>e=.returned (.int .i64 ((xc S n.data.toList).length:Nat))∧zE w0 W D P M G A L (qY S n.data.toList) w':=by
 have h':=h
 obtain ⟨p,q,LM,pg,T,hd,rfl,h2,h3⟩:=h'
 have hf:=few11 hk
 exact (VH G pg T n W hd.grp (by omega) (named11 hk) hn).mono fun e w' ⟨he,hgo⟩=>⟨he,h.goesG hd h2 hgo⟩
theorem zt.gmembers (h:zt w0 W D P M G A L S) (hk:zD S k) (h9:k≤900) (g:ByteArray) (hg:g.size≤9223372036854775807) :
  Calls Tryz.prog 367 #[.pointer (some ⟨G,0,none⟩),.string g] W fun e w'=>∃ v,e=.returned (.tuple #[v,.int .i64 (qg S g.data.toList)])∧w'.ownsRow W.heap.size 9 1 v (fI S g.data.toList).length ((fI S g.data.toList).map encStr)∧Below W.heap.size W w':=by
 obtain ⟨p,q,LM,pg,T,hd,rfl,h2,h3⟩:=h
 exact XK G pg T g W hd.grp (rises11 hk) (QL hk h9) hg
theorem zt.gof (h:zt w0 W D P M G A L S) (hk:zD S k) (n:ByteArray) (hn:n.size≤9223372036854775807) :
  Calls Tryz.prog 328 #[.pointer (some ⟨G,0,none⟩),.string n] W (zX (xc S n.data.toList) W):=by
 obtain ⟨p,q,LM,pg,T,hd,rfl,h2,h3⟩:=h
 have hf:=few11 hk
 exact jX G pg T n W hd.grp (by omega) hn
theorem zt.gall (h:zt w0 W D P M G A L S) (hk:zD S k):Calls Tryz.prog 374 #[.pointer (some ⟨G,0,none⟩)] W (zX (zc S) W):=by
 obtain ⟨p,q,LM,pg,T,hd,rfl,h2,h3⟩:=h
 have hf:=few11 hk
 exact all10_calls G pg T W hd.grp (by omega)
end
end Go.Proofs.YteegkoicalbkbaaGreatDoor
namespace Go.Proofs.YteegkoicalbkbaaGreatDoor
open Go.RowKit Go.Maps
set_option linter.unusedSectionVars false

set_option maxRecDepth 100000 in
theorem J3 (B n cap:Nat) (es:List Int) (w:World) (hl:n=es.length) (hn:n≤1000) (hc:∀ j (h:j<es.length),w.cell? ⟨B,j,none⟩=some (.int .i64 es[j])) :
  Calls Tryz.prog 152 #[.slice (some ⟨B,0,none⟩) n cap] w fun e w'=>e=.returned (.int .i64 (zI es))∧w'=w:=by
 have HC:=za hc
 have HL:=za hl
 clear hc hl
 generalize hr:zI es=r
 have HR:=za hr
 clear hr
 go_enter Tryz.func152,Tryz.ntmps152
 go_wp2
 go_loopg [4,7] n (fun gg _ s7 wr=>∃ k:Nat,k≤n∧n - k≤gg∧s7=.int .i64 k∧wr=w∧Hid (zI (es.drop k)=r))
 case atStart=>exact ⟨0,Nat.zero_le _,by omega,rfl,rfl,HR⟩
 case round =>
  obtain ⟨k,hk,hg,rfl,rfl,A⟩:=hrel
  by_cases hlt:k<n
  ·
   have hltz:(k:Int)<(n:Int):=by omega
   have hkl:k<es.length:=HL.out ▸ hlt
   have hcell:=HC.out k hkl
   have hA:(if es[k]=0 then zI (es.drop (k+1)) else es[k])=r:=by
    have:=A.out
    rw [List.drop_eq_getElem_cons hkl] at this
    exact this
   generalize es[k]=x at *
   by_cases h0:x=0
   ·
    rw [if_pos h0] at hA
    have HA:=za hA
    clear hA A
    subst h0
    go_wp2
    go_roundg (n - (k+1))
    case measure=>omega
    case rel=>exact ⟨k+1,by omega,by omega,by go_num,rfl,HA⟩
   ·
    rw [if_neg h0] at hA
    subst hA
    clear A
    go_wp2
    go_ret
    exact ⟨rfl,rfl⟩
  ·
   have hltz:¬ (k:Int)<(n:Int):=by omega
   have hA:(0:Int)=r:=by
    have:=A.out
    rw [List.drop_eq_nil_of_le (by have:=HL.out; omega)] at this
    exact this
   subst hA
   clear A
   go_wp2
   go_ret
   exact ⟨rfl,rfl⟩

set_option maxRecDepth 100000 in
theorem vv (b:Bool) (n:Int) (w:World):Calls Tryz.prog 195 #[.bool b,.int .i64 n] w fun e w'=>e=.returned (.int .i64 (zi b n))∧w'=w:=by
 cases b with
 | true =>
  show Calls _ _ _ _ fun e w'=>e=.returned (.int .i64 0)∧w'=w
  go_enter Tryz.func195,Tryz.ntmps195
  go_wp2
  go_ret
  exact ⟨rfl,rfl⟩
 | false =>
  show Calls _ _ _ _ fun e w'=>e=.returned (.int .i64 n)∧w'=w
  go_enter Tryz.func195,Tryz.ntmps195
  go_wp2
  go_ret
  exact ⟨rfl,rfl⟩


theorem YY.first11 {W:World} {v:Value} {es:List Int} (h:YY W v es) (hn:es.length≤1000):Calls Tryz.prog 152 #[v] W fun e w'=>e=.returned (.int .i64 (zI es))∧w'=W:=by
 obtain ⟨G,rfl,_,hc⟩:=h
 exact J3 G es.length es.length es W rfl hn hc
theorem vU (W:World) (es:List Int) (t:TypeId) (hn:es.length≤1000):Calls Tryz.prog 152 #[.slice (some ⟨W.heap.size,0,none⟩) es.length es.length] (W.alloc (.cells (es.map (Value.int .i64)).toArray t)) fun e w'=>e=.returned (.int .i64 (zI es))∧w'=W.alloc (.cells (es.map (Value.int .i64)).toArray t) :=
 (V8 W es t).first11 hn
set_option maxRecDepth 100000 in
theorem fN (many most:Int) (w:World):Calls Tryz.prog 157 #[.int .i64 many,.int .i64 most] w fun e w'=>e=.returned (.int .i64 (zi (decide (many≤most)) 7))∧w'=w:=by
 have HU:Hid (∀ b W,Calls Tryz.prog 195 #[.bool b,.int .i64 7] W fun e w'=>e=.returned (.int .i64 (zi b 7))∧w'=W):=fun b W=>vv b 7 W
 by_cases h:many≤most
 ·
  have hd:decide (many≤most)=true:=decide_eq_true h
  rw [hd]
  go_enter Tryz.func157,Tryz.ntmps157
  go_wp2_with fail
  with_reducible refine (HU.out _ _).mono ?_
  rintro e w' ⟨rfl,rfl⟩
  go_wp2
  go_ret
  exact ⟨rfl,rfl⟩
 ·
  have hd:decide (many≤most)=false:=decide_eq_false h
  rw [hd]
  go_enter Tryz.func157,Tryz.ntmps157
  go_wp2_with fail
  with_reducible refine (HU.out _ _).mono ?_
  rintro e w' ⟨rfl,rfl⟩
  go_wp2
  go_ret
  exact ⟨rfl,rfl⟩
set_option maxRecDepth 100000 in
theorem VV (m:ByteArray) (w:World) (hm:m.size≤9223372036854775807) (h5:vY w):Calls Tryz.prog 360 #[.string m] w (yG (zi (vu m.data.toList) 11) w):=by
 have HM:=za (fa m w hm h5)
 by_cases h0:m.size=0
 ·
  obtain rfl:m=⟨#[]⟩:=by
   obtain ⟨d⟩:=m
   obtain rfl:d=#[]:=Array.eq_empty_of_size_eq_zero h0
   rfl
  have:zi (vu (ByteArray.mk #[]).data.toList) 11=0:=by decide +kernel
  rw [this]
  clear HM
  go_enter Tryz.func360,Tryz.ntmps360
  go_wp2
  go_ret
  exact ⟨rfl,Below.refl _ _⟩
 ·
  have hne:¬ m.toList=[]:=fun e=>h0 (by rw [← zx,← ByteArray.toList_eq,e]; rfl)
  have hne1:¬ m.data.toList=[]:=fun e=>h0 (by rw [← zx,e]; rfl)
  have hne2:m.toList.isEmpty=false:=by simpa using hne
  have h1:vu m.data.toList=ve m.data.toList:=by unfold vu; rw [decide_eq_false hne1,Bool.false_or]
  rw [h1]
  generalize fJ m.data.toList=t at *
  generalize ve m.data.toList=b at *
  unfold Mails5 at HM
  generalize zi b 11=r at *
  clear h1 hne1 hm h5
  go_enter Tryz.func360,Tryz.ntmps360
  go_wp2_with fail
  with_reducible refine HM.out.mono ?_
  rintro e w1 ⟨rfl,hb⟩
  have HB:=za hb
  clear hb HM
  go_wp2
  go_ret
  exact ⟨rfl,HB.out⟩

theorem fieldA11 (s:ByteArray) (b:Bool) (w:World):(Instr.field 283 (.agg #[.string s,.bool b]) 1).run Tryz.prog w=.ok (.bool b) w:=by kernel_rfl
section
variable [Fr11] {w0 w:World} {D P M G:Nat} {A:zu} {L:zl} {S:zo}
set_option maxRecDepth 100000 in
theorem V0 (n:ByteArray) (h:zt w0 w D P M G A L S) (hn:n.size≤9223372036854775807):Calls Tryz.prog 327 #[.pointer (some ⟨D,0,none⟩),.string n] w (yL (zz A n.data.toList) w):=by
 have c0:=h.c0
 have hl:=h.look n hn
 have hz:=ZJ
 unfold av11 at hl
 have bl:∀ v:ByteArray×Bool,Below w.heap.size w (w.alloc (.cells #[.string v.1,.bool v.2] 283)):=fun v=>zb (Below.refl _ _) _
 generalize zz A n.data.toList=b at *
 generalize yf (qK A n.data.toList)=s at *
 generalize uj A n.data.toList=d at *
 clear h
 go_enter Tryz.func327,Tryz.ntmps327
 go_wp2
 go_ret
 refine ⟨rfl,?_⟩
 exact bl (s,d)
set_option maxRecDepth 100000 in
theorem yD (n:ByteArray) (h:zt w0 w D P M G A L S) (hn:n.size≤9223372036854775807):Calls Tryz.prog 319 #[.pointer (some ⟨D,0,none⟩),.string n] w (yG (zi (zz A n.data.toList) 8) w):=by
 have HU:Hid (∀ b W,Calls Tryz.prog 195 #[.bool b,.int .i64 8] W fun e w'=>e=.returned (.int .i64 (zi b 8))∧w'=W):=fun b W=>vv b 8 W
 have HH:=za (V0 n h hn)
 clear h
 generalize zz A n.data.toList=b at *
 go_enter Tryz.func319,Tryz.ntmps319
 go_wp2_with fail
 with_reducible refine HH.out.mono ?_
 rintro e w1 ⟨rfl,hb⟩
 have HB:=za hb
 clear hb HH
 go_wp2_with fail
 with_reducible refine (HU.out _ _).mono ?_
 rintro e w2 ⟨rfl,rfl⟩
 go_wp2
 go_ret
 exact ⟨rfl,HB.out⟩
set_option maxRecDepth 100000 in
theorem fq (n:ByteArray) (h:zt w0 w D P M G A L S) (hn:n.size≤9223372036854775807):Calls Tryz.prog 318 #[.pointer (some ⟨D,0,none⟩),.string n] w (yG (zi (!zz A n.data.toList) 9) w):=by
 have HU:Hid (∀ b W,Calls Tryz.prog 195 #[.bool b,.int .i64 9] W fun e w'=>e=.returned (.int .i64 (zi b 9))∧w'=W):=fun b W=>vv b 9 W
 have HH:=za (V0 n h hn)
 clear h
 generalize zz A n.data.toList=b at *
 go_enter Tryz.func318,Tryz.ntmps318
 go_wp2_with fail
 with_reducible refine HH.out.mono ?_
 rintro e w1 ⟨rfl,hb⟩
 have HB:=za hb
 clear hb HH
 go_wp2_with fail
 with_reducible refine (HU.out _ _).mono ?_
 rintro e w2 ⟨rfl,rfl⟩
 go_wp2
 go_ret
 exact ⟨rfl,HB.out⟩
set_option maxRecDepth 100000 in
theorem VU (n:ByteArray) (h:zt w0 w D P M G A L S) (hn:n.size≤9223372036854775807):Calls Tryz.prog 326 #[.pointer (some ⟨D,0,none⟩),.string n] w (yG (zi (!uj A n.data.toList) 12) w):=by
 have HU:Hid (∀ b W,Calls Tryz.prog 195 #[.bool b,.int .i64 12] W fun e w'=>e=.returned (.int .i64 (zi b 12))∧w'=W):=fun b W=>vv b 12 W
 have c0:=h.c0
 have hl:=h.look1 n hn
 unfold av11 at hl
 have hfl:=fieldA11
 clear h
 generalize yf (qK A n.data.toList)=s at *
 generalize uj A n.data.toList=b at *
 go_enter Tryz.func326,Tryz.ntmps326
 go_wp2_with fail
 with_reducible refine (HU.out _ _).mono ?_
 rintro e w2 ⟨rfl,rfl⟩
 go_wp2
 go_ret
 exact ⟨rfl,Below.refl _ _⟩
set_option maxRecDepth 100000 in
theorem YP (n:ByteArray) (is_:Bool) (h:zt w0 w D P M G A L S) (hn:n.size≤9223372036854775807):Calls Tryz.prog 361 #[.pointer (some ⟨D,0,none⟩),.string n,.bool is_] w (yG (zi (!(uj A n.data.toList == is_)) 12) w):=by
 have HU:Hid (∀ b W,Calls Tryz.prog 195 #[.bool b,.int .i64 12] W fun e w'=>e=.returned (.int .i64 (zi b 12))∧w'=W):=fun b W=>vv b 12 W
 have c0:=h.c0
 have hl:=h.look1 n hn
 unfold av11 at hl
 have hfl:=fieldA11
 clear h
 generalize yf (qK A n.data.toList)=s at *
 generalize uj A n.data.toList=b at *
 cases b <;> cases is_
 all_goals
  go_enter Tryz.func361,Tryz.ntmps361
  go_wp2_with fail
  with_reducible refine (HU.out _ _).mono ?_
  rintro e w2 ⟨rfl,rfl⟩
  go_wp2
  go_ret
  exact ⟨rfl,Below.refl _ _⟩
set_option maxRecDepth 100000 in
theorem Fe (h:zt w0 w D P M G A L S):Calls Tryz.prog 315 #[.pointer (some ⟨D,0,none⟩)] w fun e w'=>e=.returned (.int .i64 A.length)∧w'=w:=by
 have c0:=h.c0
 have hl:=h.lenA
 generalize A.length=n at *
 clear h
 go_enter Tryz.func315,Tryz.ntmps315
 go_wp2
 go_ret
 exact ⟨rfl,rfl⟩
set_option maxRecDepth 100000 in
theorem QC (m:ByteArray) (h:zt w0 w D P M G A L S) (hm:m.size≤9223372036854775807) (h5:vY w):Calls Tryz.prog 366 #[.pointer (some ⟨D,0,none⟩),.string m] w fun e w'=>e=.returned (.tuple #[.string (tx7 (fiS9 L m.data.toList)),.int .i64 (fiE9 L m.data.toList)])∧Below w.heap.size w w':=by
 have c1:=h.c1
 have HF:=za (h.mfind m hm h5)
 clear h
 generalize tx7 (fiS9 L m.data.toList)=s at *
 generalize fiE9 L m.data.toList=x at *
 go_enter Tryz.func366,Tryz.ntmps366
 go_wp2_with fail
 with_reducible refine HF.out.mono ?_
 rintro e w1 ⟨rfl,hb⟩
 have HB:=za hb
 clear hb HF c1
 go_wp2
 go_ret2
 exact ⟨rfl,HB.out⟩
variable {k:Nat}
set_option maxRecDepth 100000 in
theorem YL (g:ByteArray) (h:zt w0 w D P M G A L S) (hk:zD S k) (h9:k≤900) (hg:g.size≤9223372036854775807):Calls Tryz.prog 353 #[.pointer (some ⟨D,0,none⟩),.string g] w fun e w'=>∃ v,e=.returned (.tuple #[v,.int .i64 (qg S g.data.toList)])∧w'.ownsRow w.heap.size 9 1 v (fI S g.data.toList).length ((fI S g.data.toList).map encStr)∧Below w.heap.size w w':=by
 have c2:=h.c2
 have HF:=za (h.gmembers hk h9 g hg)
 clear h hk
 generalize fI S g.data.toList=s at *
 generalize qg S g.data.toList=x at *
 go_enter Tryz.func353,Tryz.ntmps353
 go_wp2_with fail
 with_reducible refine HF.out.mono ?_
 rintro e w1 ⟨v,rfl,hr,hb⟩
 have HB:=za hb
 have HR:=za hr
 clear hb hr HF c2
 go_wp2
 go_ret2
 exact ⟨v,rfl,HR.out,HB.out⟩
set_option maxRecDepth 100000 in
theorem XC (h:zt w0 w D P M G A L S) (hk:zD S k):Calls Tryz.prog 369 #[.pointer (some ⟨D,0,none⟩)] w (zX (zc S) w):=by
 have c2:=h.c2
 have HF:=za (h.gall hk)
 clear h hk
 generalize zc S=s at *
 go_enter Tryz.func369,Tryz.ntmps369
 go_wp2_with fail
 with_reducible refine HF.out.mono ?_
 rintro e w1 ⟨v,rfl,hr⟩
 have HR:=za hr
 clear hr HF c2
 go_wp2
 go_ret
 exact ⟨v,rfl,HR.out⟩
end
end Go.Proofs.YteegkoicalbkbaaGreatDoor
namespace Go.Proofs.YteegkoicalbkbaaGreatDoor
open Go.RowKit Go.Maps
set_option linter.unusedSectionVars false

def Jy (W:World) (b:Nat) (s:ByteArray) (d:Bool):Prop:=W.heap[b]? = some (.cells #[.string s,.bool d] 283 (0,0))
section
variable {W W':World} {b:Nat} {s:ByteArray} {d:Bool}
theorem Jy.c0 (h:Jy W b s d):W.cell? ⟨b,0,none⟩=some (.string s):=by simp [World.cell?,show W.heap[b]? = _ from h]
theorem Jy.c1 (h:Jy W b s d):W.cell? ⟨b,1,none⟩=some (.bool d):=by simp [World.cell?,show W.heap[b]? = _ from h]
theorem Jy.f0 (h:Jy W b s d):W.frozen? ⟨b,0,none⟩=false:=by simp [World.frozen?,show W.heap[b]? = _ from h]
theorem Jy.lt (h:Jy W b s d):b<W.heap.size:=(Array.getElem?_eq_some_iff.1 h).1
theorem Jy.later (h:Jy W b s d) (hb:Below W.heap.size W W'):Jy W' b s d:=(hb.block b h.lt).trans h
theorem ac11_new (W:World) (s:ByteArray) (d:Bool):Jy (W.alloc (.cells #[.string s,.bool d] 283)) W.heap.size s d:=(MapKept.heap_alloc W _).1
theorem Jy.set0 (h:Jy W b s d) (x:ByteArray):Jy (W.setCell ⟨b,0,none⟩ (.string x)) b x d:=by
 have h':W.heap[b]? = some (.cells #[.string s,.bool d] 283 (0,0)):=h
 have hl:=h.lt
 have:=h'
 rw [Array.getElem?_eq_getElem hl] at this
 injection this with this
 show (W.setCell ⟨b,0,none⟩ (.string x)).heap[b]? = _
 simp [World.setCell,hl,Array.getElem_modify,this]
theorem Jy.set1 (h:Jy W b s d) (x:Bool):Jy (W.setCell ⟨b,1,none⟩ (.bool x)) b s x:=by
 have h':W.heap[b]? = some (.cells #[.string s,.bool d] 283 (0,0)):=h
 have hl:=h.lt
 have:=h'
 rw [Array.getElem?_eq_getElem hl] at this
 injection this with this
 show (W.setCell ⟨b,1,none⟩ (.bool x)).heap[b]? = _
 simp [World.setCell,hl,Array.getElem_modify,this]
end

def YPt11 (D P:Nat) (n h:ByteArray) (d:Bool):Nat→Value→Prop
 | 3,v=>v=.map (some P)
 | 4,v=>v=.string n
 | 5,v=>v=.string n
 | 6,v=>v=.agg #[.string h,.bool d]
 | _,v=>v=.pointer (some ⟨D,0,none⟩)
def YPtW11 (D P:Nat) (n h:ByteArray) (d:Bool) (j:Nat) (v:Value) (_:World):Prop:=YPt11 D P n h d j v
section
variable [Fr11] {w0 w:World} {D P M G:Nat} {A:zu} {L:zl} {S:zo}
set_option maxRecDepth 100000 in
theorem uY (n h:ByteArray) (d:Bool) (ho:zt w0 w D P M G A L S) (hf:A.length≤1000) (hn:n.size≤1000) (hh:h.size≤1000) :
  Calls Tryz.prog 201 #[.pointer (some ⟨D,0,none⟩),.string n,.agg #[.string h,.bool d]] w fun e w'=>e=.returned (.tuple #[])∧zE w0 w D P M G (yR A n.data.toList (h.data.toList,d)) L S w':=by
 have HC:Hid (∀ W,Calls Tryz.prog 191 #[.string n] W fun e w'=>e=.returned (.string n)∧Below W.heap.size W w'):=fun W=>yy n W hn
 have HC1:Hid (∀ W,Calls Tryz.prog 191 #[.string h] W fun e w'=>e=.returned (.string h)∧Below W.heap.size W w'):=fun W=>yy h W hh
 have HO:=za ho
 have HST:Hid (∀ W,Below w.heap.size w W→∃ w',(Instr.mapUpdate 236 (.map (some P)) (.string n) (.agg #[.string h,.bool d])).run Tryz.prog W=.ok () w'∧zE w0 w D P M G (yR A n.data.toList (h.data.toList,d)) L S w'):=fun W hb=>by
  obtain ⟨w',h1,h2⟩:=(ho.later hb).store hf n h d (Nat.le_trans hn (by decide))
  exact ⟨w',h1,h2.ahead hb⟩
 have HA:=za (ac11_new w h d)
 have HB0:Hid (Below w.heap.size w (w.alloc (.cells #[.string h,.bool d] 283))):=zb (Below.refl _ _) _
 clear ho hf hn hh
 go_enter Tryz.func201,Tryz.ntmps201
 go_wp2_with fail
 with_reducible refine (HC1.out _).mono ?_
 rintro e w1 ⟨rfl,hb⟩
 have ha:=HA.out.later hb
 have f0:=ha.f0
 have c0:=ha.c0
 have HA1:=za (ha.set0 h)
 have HB1:Hid (Below w.heap.size w (w1.setCell ⟨w.heap.size,0,none⟩ (.string h))):=(z7 HB0.out hb).setCell (p:=⟨w.heap.size,0,none⟩) (Nat.le_refl _) _
 clear hb HA HB0 HC1 ha
 go_wp2_with fail
 generalize w1.setCell ⟨w.heap.size,0,none⟩ (.string h)=w2 at *
 generalize w.heap.size=B5 at HA1
 clear f0 c0
 refine zB (by kernel_rfl) 7 (fun W=>Below w2.heap.size w2 W) (fun W=>zE w0 w D P M G (yR A n.data.toList (h.data.toList,d)) L S W) (YPtW11 D P n h d) (fun _=>True) ?F ?hF (by kernel_rfl) (by kernel_rfl) (by kernel_rfl) (by kernel_rfl) (by decide) (zQ (Below.refl _ _)) ?step ?fin
 case hF =>
  intro x
  simp only [List.map_cons,List.map_nil,xU,Act.put,List.setIfInBounds_toArray,List.set_cons_zero,List.set_cons_succ,Nat.zero_add,Nat.reduceAdd]
  exact rfl
 case step =>
  refine ⟨?_,?_,?_,?_,?_,?_,?_,?_,trivial⟩
  ·
   intro x W
   refine ⟨fun _ hW hdep K hK=>?_,(fun h=>absurd h (by decide)),(fun h=>absurd h (by decide))⟩
   clear hdep
   go_simp
   exact hK _ _ rfl hW (fun _ _ h=>h)
  ·
   intro x W
   refine ⟨fun _ hW hdep K hK=>?_,(fun h=>absurd h (by decide)),(fun h=>absurd h (by decide))⟩
   have h0:x 0=_:=hdep 0 rfl
   clear hdep
   simp only [h0] at hK
   go_simp
   exact hK _ _ rfl hW (fun _ _ h=>h)
  ·
   intro x W
   refine ⟨fun _ hW hdep K hK=>?_,(fun h=>absurd h (by decide)),(fun h=>absurd h (by decide))⟩
   have h1:x 1=_:=hdep 1 rfl
   clear hdep
   simp only [h1] at hK
   go_simp
   exact hK _ _ rfl hW (fun _ _ h=>h)
  ·
   intro x W
   refine ⟨fun _ hW hdep K hK=>?_,(fun h=>absurd h (by decide)),(fun h=>absurd h (by decide))⟩
   have h2:x 2=_:=hdep 2 rfl
   have c:=(HO.out.later (z7 HB1.out hW)).c0
   clear hdep
   simp only [h2] at hK
   go_simp
   exact hK _ _ rfl hW (fun _ _ h=>h)
  ·
   intro x W
   refine ⟨fun _ hW hdep K hK=>?_,(fun h=>absurd h (by decide)),(fun h=>absurd h (by decide))⟩
   clear hdep
   go_simp
   exact hK _ _ rfl hW (fun _ _ h=>h)
  ·
   intro x W
   refine ⟨fun _ hW hdep K hK=>?_,(fun h=>absurd h (by decide)),(fun h=>absurd h (by decide))⟩
   have h4:x 4=_:=hdep 4 rfl
   have hc:=HC.out W
   clear hdep
   simp only [h4] at hK
   go_simp
   refine hc.mono ?_
   rintro e W' ⟨rfl,hb⟩
   exact hK _ _ rfl (z7 hW hb) (fun _ _ h=>h)
  ·
   intro x W
   refine ⟨fun _ hW hdep K hK=>?_,(fun h=>absurd h (by decide)),(fun h=>absurd h (by decide))⟩
   have hx:=HA1.out.later hW
   have c0:=hx.c0
   have c1:=hx.c1
   clear hdep
   go_simp
   exact hK _ _ rfl hW (fun _ _ h=>h)
  ·
   intro x W
   refine ⟨(fun h=>absurd h (by decide)),fun _ hW hdep K hK=>?_,(fun h=>absurd h (by decide))⟩
   have h3:x 3=_:=hdep 3 rfl
   have h5:x 5=_:=hdep 5 rfl
   have h6:x 6=_:=hdep 6 rfl
   obtain ⟨w',hrun,hg⟩:=HST.out W (z7 HB1.out hW)
   clear hdep
   simp only [h3,h5,h6] at hK
   go_simp
   exact hK undef _ trivial hg
 case fin =>
  intro x W hW _
  have HF:=za hW
  clear hW HST HC HA1 HB1 HO
  go_end0
  exact ⟨rfl,HF.out⟩

def YPm11 (D M:Nat) (n m:ByteArray):Nat→Value→Prop
 | 2,v=>v=.pointer (some ⟨D,1,none⟩)
 | 3,v=>v=.pointer (some ⟨M,0,none⟩)
 | 4,v=>v=.string n
 | 5,v=>v=.string n
 | 6,v=>v=.string m
 | _,v=>v=.pointer (some ⟨D,0,none⟩)
def YPmW11 (D M:Nat) (n m:ByteArray) (j:Nat) (v:Value) (_:World):Prop:=YPm11 D M n m j v
set_option maxRecDepth 100000 in
theorem jB (n m:ByteArray) (ho:zt w0 w D P M G A L S) (hl:L.length<100) (h5:vY w) (hn:n.size≤1000) (hm:m.size≤9223372036854775807) :
  Calls Tryz.prog 202 #[.pointer (some ⟨D,0,none⟩),.string n,.string m] w fun e w'=>e=.returned (.int .i64 (jy L n.data.toList m.data.toList))∧zE w0 w D P M G A (Uu L n.data.toList m.data.toList) S w':=by
 have HC:Hid (∀ W,Calls Tryz.prog 191 #[.string n] W fun e w'=>e=.returned (.string n)∧Below W.heap.size W w'):=fun W=>yy n W hn
 have HO:=za ho
 have HST:Hid (∀ W,Below w.heap.size w W→Calls Tryz.prog 226 #[.pointer (some ⟨M,0,none⟩),.string n,.string m] W fun e w'=>e=.returned (.int .i64 (jy L n.data.toList m.data.toList))∧zE w0 w D P M G A (Uu L n.data.toList m.data.toList) S w'):=fun W hb =>
  ((ho.later hb).mset n m (Nat.le_trans hn (by decide)) hm hl (h5.later hb)).mono fun e w' ⟨he,hg⟩=>⟨he,hg.ahead hb⟩
 clear ho hl hn hm h5
 generalize jy L n.data.toList m.data.toList=r at *
 generalize Uu L n.data.toList m.data.toList=L' at *
 go_enter Tryz.func202,Tryz.ntmps202
 go_wp2_with fail
 refine zB (by kernel_rfl) 7 (fun W=>Below w.heap.size w W) (fun W=>zE w0 w D P M G A L' S W) (YPmW11 D M n m) (fun v=>v=.int .i64 r) ?F ?hF (by kernel_rfl) (by kernel_rfl) (by kernel_rfl) (by kernel_rfl) (by decide) (zQ (Below.refl _ _)) ?step ?fin
 case hF =>
  intro x
  simp only [List.map_cons,List.map_nil,xU,Act.put,List.setIfInBounds_toArray,List.set_cons_zero,List.set_cons_succ,Nat.zero_add,Nat.reduceAdd]
  exact rfl
 case step =>
  refine ⟨?_,?_,?_,?_,?_,?_,?_,?_,?_,trivial⟩
  ·
   intro x W
   refine ⟨fun _ hW hdep K hK=>?_,(fun h=>absurd h (by decide)),(fun h=>absurd h (by decide))⟩
   clear hdep
   go_simp
   exact hK _ _ rfl hW (fun _ _ h=>h)
  ·
   intro x W
   refine ⟨fun _ hW hdep K hK=>?_,(fun h=>absurd h (by decide)),(fun h=>absurd h (by decide))⟩
   have h0:x 0=_:=hdep 0 rfl
   clear hdep
   simp only [h0] at hK
   go_simp
   exact hK _ _ rfl hW (fun _ _ h=>h)
  ·
   intro x W
   refine ⟨fun _ hW hdep K hK=>?_,(fun h=>absurd h (by decide)),(fun h=>absurd h (by decide))⟩
   have h1:x 1=_:=hdep 1 rfl
   clear hdep
   simp only [h1] at hK
   go_simp
   exact hK _ _ rfl hW (fun _ _ h=>h)
  ·
   intro x W
   refine ⟨fun _ hW hdep K hK=>?_,(fun h=>absurd h (by decide)),(fun h=>absurd h (by decide))⟩
   have h2:x 2=_:=hdep 2 rfl
   have c:=(HO.out.later hW).c1
   clear hdep
   simp only [h2] at hK
   go_simp
   exact hK _ _ rfl hW (fun _ _ h=>h)
  ·
   intro x W
   refine ⟨fun _ hW hdep K hK=>?_,(fun h=>absurd h (by decide)),(fun h=>absurd h (by decide))⟩
   clear hdep
   go_simp
   exact hK _ _ rfl hW (fun _ _ h=>h)
  ·
   intro x W
   refine ⟨fun _ hW hdep K hK=>?_,(fun h=>absurd h (by decide)),(fun h=>absurd h (by decide))⟩
   have h4:x 4=_:=hdep 4 rfl
   have hc:=HC.out W
   clear hdep
   simp only [h4] at hK
   go_simp
   refine hc.mono ?_
   rintro e W' ⟨rfl,hb⟩
   exact hK _ _ rfl (z7 hW hb) (fun _ _ h=>h)
  ·
   intro x W
   refine ⟨fun _ hW hdep K hK=>?_,(fun h=>absurd h (by decide)),(fun h=>absurd h (by decide))⟩
   clear hdep
   go_simp
   exact hK _ _ rfl hW (fun _ _ h=>h)
  ·
   intro x W
   refine ⟨(fun h=>absurd h (by decide)),fun _ hW hdep K hK=>?_,(fun h=>absurd h (by decide))⟩
   have h3:x 3=_:=hdep 3 rfl
   have h5:x 5=_:=hdep 5 rfl
   have h6:x 6=_:=hdep 6 rfl
   have hc:=HST.out W hW
   clear hdep
   simp only [h3,h5,h6] at hK
   go_simp
   refine hc.mono ?_
   rintro e W' ⟨rfl,hg⟩
   exact hK _ _ rfl hg
  ·
   intro x W
   refine ⟨(fun h=>absurd h (by decide)),(fun h=>absurd h (by decide)),fun _ hW hdep K hK=>?_⟩
   have h7:x 7=_:=hdep 7 rfl (by decide)
   clear hdep
   simp only [h7] at hK
   go_simp
   exact hK _ rfl
 case fin =>
  intro x W hW hZ
  have h8:x 8=.int .i64 r:=hZ 8 (by decide) (by decide)
  have HF:=za hW
  clear hW hZ HST HC HO
  rw [h8]
  go_wp2
  go_ret
  exact ⟨rfl,HF.out⟩
end
end Go.Proofs.YteegkoicalbkbaaGreatDoor
namespace Go.Proofs.YteegkoicalbkbaaGreatDoor
open Go.RowKit Go.Maps
set_option linter.unusedSectionVars false

theorem first11_cr (a b c d:Bool):zI [zi a 10,zi b 4,zi (!c) 9,zi (!d) 7]=crF11 a b c d:=by cases a <;> cases b <;> cases c <;> cases d <;> rfl
theorem UP (a c:Bool):zI [zi a 10,zi c 8]=deF11 a c:=by cases a <;> cases c <;> rfl
theorem first11_sh (a b c d:Bool):zI [zi a 10,zi b 4,zi c 8,zi (!d) 12]=shF11 a b c d:=by cases a <;> cases b <;> cases c <;> cases d <;> rfl
theorem first11_di (a c d:Bool):zI [zi a 10,zi c 8,zi (!d) 12]=diF11 a c d:=by cases a <;> cases c <;> cases d <;> rfl
theorem first11_rn (a b c d:Bool):zI [zi a 10,zi b 10,zi c 8,zi (!d) 9]=rnF11 a b c d:=by cases a <;> cases b <;> cases c <;> cases d <;> rfl
theorem UQ (A:zu) (g n:List UInt8):zI [zi (zh g) 10,zi (zh n) 10,zi (zz A n) 8]=yW A g n:=by
 unfold yW
 cases zh g <;> cases zh n <;> cases zz A n <;> rfl
theorem first11_sm (a b c:Bool):zI [zi a 10,zi b 11,zi c 8]=if a then (if b then (if c then 0 else 8) else 11) else 10:=by cases a <;> cases b <;> cases c <;> rfl
theorem vE {n:ByteArray} (h:zh n.data.toList=true):n.size≤1000:=qc h
theorem fb {l:List UInt8} (h:yj l=true):l.length≤1000:=by
 unfold yj at h
 simp only [Bool.and_eq_true,decide_eq_true_eq] at h
 have:=h.1.2
 omega
theorem fM {n:ByteArray} (h:yj n.data.toList=true):n.size≤1000:=by
 have:=fb h
 rwa [zx] at this
section
variable [Fr11] {w0 w:World} {D P M G:Nat} {A:zu} {L:zl} {S:zo} {k:Nat}
theorem fit11_eq (n:Nat):zi (decide ((n:Int)+1≤12)) 7=zi (!decide (12≤n)) 7:=by
 by_cases h:12≤n
 ·
  rw [decide_eq_true h,decide_eq_false (by omega)]; rfl
 ·
  rw [decide_eq_false h,decide_eq_true (by omega)]; rfl
set_option maxRecDepth 100000 in
theorem U6 (n h:ByteArray) (ho:zt w0 w D P M G A L S) (hg:zn A L S k) (hn:n.size≤9223372036854775807) (hh:h.size≤9223372036854775807) :
  Calls Tryz.prog 313 #[.pointer (some ⟨D,0,none⟩),.string n,.string h] w fun e w'=>e=.returned (.int .i64 (Jh A n.data.toList h.data.toList))∧zE w0 w D P M G (crA11 A n.data.toList h.data.toList) L S w':=by
 have HN:Hid (∀ W,Below w.heap.size w W→Calls Tryz.prog 159 #[.string n] W fun e w'=>e=.returned (.int .i64 (zi (zh n.data.toList) 10))∧Below W.heap.size W w'):=fun W hb=>zW n W hn
 have HH:Hid (∀ W,Below w.heap.size w W→Calls Tryz.prog 210 #[.string h] W fun e w'=>e=.returned (.int .i64 (zi (yj h.data.toList) 4))∧Below W.heap.size W w'):=fun W hb=>fh h W hh
 have HI:Hid (∀ W,Below w.heap.size w W→Calls Tryz.prog 318 #[.pointer (some ⟨D,0,none⟩),.string n] W fun e w'=>e=.returned (.int .i64 (zi (!zz A n.data.toList) 9))∧Below W.heap.size W w'):=fun W hb=>fq n (ho.later hb) hn
 have HL:Hid (∀ W,Below w.heap.size w W→Calls Tryz.prog 315 #[.pointer (some ⟨D,0,none⟩)] W fun e w'=>e=.returned (.int .i64 ((A.length:Int)))∧Below W.heap.size W w'):=fun W hb=>(Fe (ho.later hb)).mono fun e w' ⟨he,hw⟩=>⟨he,by rw [hw]; exact Below.refl _ _⟩
 have HT:Hid (∀ W,Below w.heap.size w W→Calls Tryz.prog 157 #[.int .i64 ((A.length:Int)+1),.int .i64 12] W fun e w'=>e=.returned (.int .i64 (zi (!decide (12≤A.length)) 7))∧Below W.heap.size W w'):=fun W hb=>(fN _ _ W).mono fun e w' ⟨he,hw⟩=>⟨by rw [he,fit11_eq],by rw [hw]; exact Below.refl _ _⟩
 have HFS:Hid (∀ W:World,Calls Tryz.prog 152 #[.slice (some ⟨W.heap.size,0,none⟩) 4 4] (W.alloc (.cells #[.int .i64 (zi (zh n.data.toList) 10),.int .i64 (zi (yj h.data.toList) 4),.int .i64 (zi (!zz A n.data.toList) 9),.int .i64 (zi (!decide (12≤A.length)) 7)] 54)) fun e w'=>e=.returned (.int .i64 (Jh A n.data.toList h.data.toList))∧w'=W.alloc (.cells #[.int .i64 (zi (zh n.data.toList) 10),.int .i64 (zi (yj h.data.toList) 4),.int .i64 (zi (!zz A n.data.toList) 9),.int .i64 (zi (!decide (12≤A.length)) 7)] 54)):=fun W=>by
  have:=vU W [zi (zh n.data.toList) 10,zi (yj h.data.toList) 4,zi (!zz A n.data.toList) 9,zi (!decide (12≤A.length)) 7] 54 (by simp)
  rw [first11_cr] at this
  exact this
 have HO:=za ho
 have HP:Hid (Jh A n.data.toList h.data.toList=0→∀ W,Below w.heap.size w W→Calls Tryz.prog 201 #[.pointer (some ⟨D,0,none⟩),.string n,.agg #[.string h,.bool false]] W fun e w'=>e=.returned (.tuple #[])∧zE w0 w D P M G (yR A n.data.toList (h.data.toList,false)) L S w'):=fun e W hb=>by
  obtain ⟨h1,h2,h3,h4⟩:=crF_zero e
  exact (uY n h false (ho.later hb) (by have:=hg.few; omega) (vE h1) (fM h2)).mono fun e w' ⟨he,hgo⟩=>⟨he,hgo.ahead hb⟩
 have hm12:(A.length:Int)≤12:=by have:=hg.few; omega
 have hm0:(0:Int)≤(A.length:Int):=by omega
 clear ho hg hn hh
 unfold crA11
 generalize yR A n.data.toList (h.data.toList,false)=A' at *
 generalize Jh A n.data.toList h.data.toList=r at *
 generalize zi (zh n.data.toList) 10=e0 at *
 generalize zi (yj h.data.toList) 4=e1 at *
 generalize zi (!zz A n.data.toList) 9=e2 at *
 generalize zi (!decide (12≤A.length)) 7=e3 at *
 generalize (A.length:Int)=m at *
 by_cases h0:r=0
 ·
  subst h0
  rw [if_pos rfl]
  have HP2:=za (HP.out rfl)
  clear HP
  go_enter Tryz.func313,Tryz.ntmps313
  have HB0:Hid (Below w.heap.size w w):=Below.refl _ _
  go_wp2_with fail
  with_reducible refine (HN.out w HB0.out).mono ?_
  rintro e u1 ⟨rfl,hb⟩
  have HB1:=za (z7 HB0.out hb)
  clear hb
  go_wp2_with fail
  with_reducible refine (HH.out u1 HB1.out).mono ?_
  rintro e u2 ⟨rfl,hb⟩
  have HB2:=za (z7 HB1.out hb)
  clear hb
  go_wp2_with fail
  with_reducible refine (HI.out u2 HB2.out).mono ?_
  rintro e u3 ⟨rfl,hb⟩
  have HB3:=za (z7 HB2.out hb)
  clear hb
  go_wp2_with fail
  with_reducible refine (HL.out u3 HB3.out).mono ?_
  rintro e u4 ⟨rfl,hb⟩
  have HB4:=za (z7 HB3.out hb)
  clear hb
  go_wp2_with fail
  with_reducible refine (HT.out u4 HB4.out).mono ?_
  rintro e u5 ⟨rfl,hb⟩
  have HB5:=za (z7 HB4.out hb)
  clear hb
  go_wp2_with fail
  with_reducible refine (HFS.out _).mono ?_
  rintro e ub ⟨rfl,hub⟩
  have HB:Hid (Below w.heap.size w ub):=by
   show Below _ _ _
   rw [hub]; exact zb HB5.out _
  clear hub HFS HB0 HB1 HB2 HB3 HB4 HB5 HN HH HI HL HT
  go_wp2_with fail
  with_reducible refine (HP2.out _ HB.out).mono ?_
  rintro e w5 ⟨rfl,hg⟩
  have HF:=za hg
  clear hg HP2 HB
  go_wp2
  go_ret
  exact ⟨rfl,HF.out⟩
 ·
  rw [if_neg h0]
  clear HP
  have q1:(r == 0)=false:=by simpa using h0
  have q2:¬ r=0:=h0
  go_enter Tryz.func313,Tryz.ntmps313
  have HB0:Hid (Below w.heap.size w w):=Below.refl _ _
  go_wp2_with fail
  with_reducible refine (HN.out w HB0.out).mono ?_
  rintro e u1 ⟨rfl,hb⟩
  have HB1:=za (z7 HB0.out hb)
  clear hb
  go_wp2_with fail
  with_reducible refine (HH.out u1 HB1.out).mono ?_
  rintro e u2 ⟨rfl,hb⟩
  have HB2:=za (z7 HB1.out hb)
  clear hb
  go_wp2_with fail
  with_reducible refine (HI.out u2 HB2.out).mono ?_
  rintro e u3 ⟨rfl,hb⟩
  have HB3:=za (z7 HB2.out hb)
  clear hb
  go_wp2_with fail
  with_reducible refine (HL.out u3 HB3.out).mono ?_
  rintro e u4 ⟨rfl,hb⟩
  have HB4:=za (z7 HB3.out hb)
  clear hb
  go_wp2_with fail
  with_reducible refine (HT.out u4 HB4.out).mono ?_
  rintro e u5 ⟨rfl,hb⟩
  have HB5:=za (z7 HB4.out hb)
  clear hb
  go_wp2_with fail
  with_reducible refine (HFS.out _).mono ?_
  rintro e ub ⟨rfl,hub⟩
  have HB:Hid (Below w.heap.size w ub):=by
   show Below _ _ _
   rw [hub]; exact zb HB5.out _
  clear hub HFS HB0 HB1 HB2 HB3 HB4 HB5 HN HH HI HL HT
  go_wp2
  go_ret
  exact ⟨rfl,HO.out.still HB.out⟩
set_option maxRecDepth 100000 in
theorem Xp (n h:ByteArray) (ho:zt w0 w D P M G A L S) (hg:zn A L S k) (hn:n.size≤9223372036854775807) (hh:h.size≤9223372036854775807) :
  Calls Tryz.prog 317 #[.pointer (some ⟨D,0,none⟩),.string n,.string h] w fun e w'=>e=.returned (.int .i64 (Ql A n.data.toList h.data.toList))∧zE w0 w D P M G (shA11 A n.data.toList h.data.toList) L S w':=by
 have HN:Hid (∀ W,Below w.heap.size w W→Calls Tryz.prog 159 #[.string n] W fun e w'=>e=.returned (.int .i64 (zi (zh n.data.toList) 10))∧Below W.heap.size W w'):=fun W hb=>zW n W hn
 have HH:Hid (∀ W,Below w.heap.size w W→Calls Tryz.prog 210 #[.string h] W fun e w'=>e=.returned (.int .i64 (zi (yj h.data.toList) 4))∧Below W.heap.size W w'):=fun W hb=>fh h W hh
 have HI:Hid (∀ W,Below w.heap.size w W→Calls Tryz.prog 319 #[.pointer (some ⟨D,0,none⟩),.string n] W fun e w'=>e=.returned (.int .i64 (zi (zz A n.data.toList) 8))∧Below W.heap.size W w'):=fun W hb=>yD n (ho.later hb) hn
 have HL:Hid (∀ W,Below w.heap.size w W→Calls Tryz.prog 326 #[.pointer (some ⟨D,0,none⟩),.string n] W fun e w'=>e=.returned (.int .i64 (zi (!uj A n.data.toList) 12))∧Below W.heap.size W w'):=fun W hb=>VU n (ho.later hb) hn
 have HFS:Hid (∀ W:World,Calls Tryz.prog 152 #[.slice (some ⟨W.heap.size,0,none⟩) 4 4] (W.alloc (.cells #[.int .i64 (zi (zh n.data.toList) 10),.int .i64 (zi (yj h.data.toList) 4),.int .i64 (zi (zz A n.data.toList) 8),.int .i64 (zi (!uj A n.data.toList) 12)] 54)) fun e w'=>e=.returned (.int .i64 (Ql A n.data.toList h.data.toList))∧w'=W.alloc (.cells #[.int .i64 (zi (zh n.data.toList) 10),.int .i64 (zi (yj h.data.toList) 4),.int .i64 (zi (zz A n.data.toList) 8),.int .i64 (zi (!uj A n.data.toList) 12)] 54)):=fun W=>by
  have:=vU W [zi (zh n.data.toList) 10,zi (yj h.data.toList) 4,zi (zz A n.data.toList) 8,zi (!uj A n.data.toList) 12] 54 (by simp)
  rw [first11_sh] at this
  exact this
 have HO:=za ho
 have HP:Hid (Ql A n.data.toList h.data.toList=0→∀ W,Below w.heap.size w W→Calls Tryz.prog 201 #[.pointer (some ⟨D,0,none⟩),.string n,.agg #[.string h,.bool (uj A n.data.toList)]] W fun e w'=>e=.returned (.tuple #[])∧zE w0 w D P M G (yR A n.data.toList (h.data.toList,uj A n.data.toList)) L S w'):=fun e W hb=>by
  obtain ⟨h1,h2,h3,h4⟩:=shF_zero e
  exact (uY n h _ (ho.later hb) (by have:=hg.few; omega) (vE h1) (fM h2)).mono fun e w' ⟨he,hgo⟩=>⟨he,hgo.ahead hb⟩
 have HK:Hid (∀ W,Below w.heap.size w W→(Instr.lookup 236 (.map (some P)) (.string n) false).run Tryz.prog W=.ok (.agg #[.string (yf (qK A n.data.toList)),.bool (uj A n.data.toList)]) W):=fun W hb=>(ho.later hb).look1 n hn
 have hz:=ZJ
 clear ho hg hn hh
 unfold shA11
 generalize yR A n.data.toList (h.data.toList,uj A n.data.toList)=A' at *
 generalize Ql A n.data.toList h.data.toList=r at *
 generalize zi (zh n.data.toList) 10=e0 at *
 generalize zi (yj h.data.toList) 4=e1 at *
 generalize zi (zz A n.data.toList) 8=e2 at *
 generalize zi (!uj A n.data.toList) 12=e3 at *
 generalize uj A n.data.toList=dd at *
 generalize yf (qK A n.data.toList)=ss at *
 by_cases h0:r=0
 ·
  subst h0
  rw [if_pos rfl]
  have HP2:=za (HP.out rfl)
  clear HP
  go_enter Tryz.func317,Tryz.ntmps317
  have HB0:Hid (Below w.heap.size w w):=Below.refl _ _
  go_wp2_with fail
  with_reducible refine (HN.out w HB0.out).mono ?_
  rintro e u1 ⟨rfl,hb⟩
  have HB1:=za (z7 HB0.out hb)
  clear hb
  go_wp2_with fail
  with_reducible refine (HH.out u1 HB1.out).mono ?_
  rintro e u2 ⟨rfl,hb⟩
  have HB2:=za (z7 HB1.out hb)
  clear hb
  go_wp2_with fail
  with_reducible refine (HI.out u2 HB2.out).mono ?_
  rintro e u3 ⟨rfl,hb⟩
  have HB3:=za (z7 HB2.out hb)
  clear hb
  go_wp2_with fail
  with_reducible refine (HL.out u3 HB3.out).mono ?_
  rintro e u4 ⟨rfl,hb⟩
  have HB4:=za (z7 HB3.out hb)
  clear hb
  go_wp2_with fail
  with_reducible refine (HFS.out _).mono ?_
  rintro e ub ⟨rfl,hub⟩
  have HB:Hid (Below w.heap.size w ub):=by
   show Below _ _ _
   rw [hub]; exact zb HB4.out _
  clear hub HFS HB0 HB1 HB2 HB3 HB4 HN HH HI HL
  have c0:=(HO.out.later HB.out).c0
  have hk:=HK.out _ HB.out
  have HBA:Hid (Below w.heap.size w (ub.alloc (.cells #[.string h,.bool dd] 283))):=zb HB.out _
  clear HK
  go_wp2_with fail
  with_reducible refine (HP2.out _ HBA.out).mono ?_
  rintro e w5 ⟨rfl,hg⟩
  have HF:=za hg
  clear hg HP2 HB HBA c0 hk
  go_wp2
  go_ret
  exact ⟨rfl,HF.out⟩
 ·
  rw [if_neg h0]
  clear HP HK
  have q1:(r == 0)=false:=by simpa using h0
  have q2:¬ r=0:=h0
  go_enter Tryz.func317,Tryz.ntmps317
  have HB0:Hid (Below w.heap.size w w):=Below.refl _ _
  go_wp2_with fail
  with_reducible refine (HN.out w HB0.out).mono ?_
  rintro e u1 ⟨rfl,hb⟩
  have HB1:=za (z7 HB0.out hb)
  clear hb
  go_wp2_with fail
  with_reducible refine (HH.out u1 HB1.out).mono ?_
  rintro e u2 ⟨rfl,hb⟩
  have HB2:=za (z7 HB1.out hb)
  clear hb
  go_wp2_with fail
  with_reducible refine (HI.out u2 HB2.out).mono ?_
  rintro e u3 ⟨rfl,hb⟩
  have HB3:=za (z7 HB2.out hb)
  clear hb
  go_wp2_with fail
  with_reducible refine (HL.out u3 HB3.out).mono ?_
  rintro e u4 ⟨rfl,hb⟩
  have HB4:=za (z7 HB3.out hb)
  clear hb
  go_wp2_with fail
  with_reducible refine (HFS.out _).mono ?_
  rintro e ub ⟨rfl,hub⟩
  have HB:Hid (Below w.heap.size w ub):=by
   show Below _ _ _
   rw [hub]; exact zb HB4.out _
  clear hub HFS HB0 HB1 HB2 HB3 HB4 HN HH HI HL
  go_wp2
  go_ret
  exact ⟨rfl,HO.out.still HB.out⟩
set_option maxRecDepth 100000 in
theorem jJ (n:ByteArray) (is_:Bool) (ho:zt w0 w D P M G A L S) (hg:zn A L S k) (hn:n.size≤9223372036854775807) :
  Calls Tryz.prog 346 #[.pointer (some ⟨D,0,none⟩),.string n,.bool is_] w fun e w'=>e=.returned (.int .i64 (U1 A n.data.toList is_))∧zE w0 w D P M G (diA11 A n.data.toList is_) L S w':=by
 have HN:Hid (∀ W,Below w.heap.size w W→Calls Tryz.prog 159 #[.string n] W fun e w'=>e=.returned (.int .i64 (zi (zh n.data.toList) 10))∧Below W.heap.size W w'):=fun W hb=>zW n W hn
 have HI:Hid (∀ W,Below w.heap.size w W→Calls Tryz.prog 319 #[.pointer (some ⟨D,0,none⟩),.string n] W fun e w'=>e=.returned (.int .i64 (zi (zz A n.data.toList) 8))∧Below W.heap.size W w'):=fun W hb=>yD n (ho.later hb) hn
 have HL:Hid (∀ W,Below w.heap.size w W→Calls Tryz.prog 361 #[.pointer (some ⟨D,0,none⟩),.string n,.bool is_] W fun e w'=>e=.returned (.int .i64 (zi (!(uj A n.data.toList == is_)) 12))∧Below W.heap.size W w'):=fun W hb=>YP n is_ (ho.later hb) hn
 have HFS:Hid (∀ W:World,Calls Tryz.prog 152 #[.slice (some ⟨W.heap.size,0,none⟩) 3 3] (W.alloc (.cells #[.int .i64 (zi (zh n.data.toList) 10),.int .i64 (zi (zz A n.data.toList) 8),.int .i64 (zi (!(uj A n.data.toList == is_)) 12)] 54)) fun e w'=>e=.returned (.int .i64 (U1 A n.data.toList is_))∧w'=W.alloc (.cells #[.int .i64 (zi (zh n.data.toList) 10),.int .i64 (zi (zz A n.data.toList) 8),.int .i64 (zi (!(uj A n.data.toList == is_)) 12)] 54)):=fun W=>by
  have:=vU W [zi (zh n.data.toList) 10,zi (zz A n.data.toList) 8,zi (!(uj A n.data.toList == is_)) 12] 54 (by simp)
  rw [first11_di] at this
  exact this
 have HO:=za ho
 have HP:Hid (U1 A n.data.toList is_=0→∀ W,Below w.heap.size w W→Calls Tryz.prog 201 #[.pointer (some ⟨D,0,none⟩),.string n,.agg #[.string (yf (qK A n.data.toList)),.bool is_]] W fun e w'=>e=.returned (.tuple #[])∧zE w0 w D P M G (yR A n.data.toList (qK A n.data.toList,is_)) L S w'):=fun e W hb=>by
  obtain ⟨h1,h3,h4⟩:=diF_zero e
  have:=uY n (yf (qK A n.data.toList)) is_ (ho.later hb) (by have:=hg.few; omega) (vE h1) (by rw [xO]; exact fb (XZ hg h3))
  rw [zT] at this
  exact this.mono fun e w' ⟨he,hgo⟩=>⟨he,hgo.ahead hb⟩
 have HK:Hid (∀ W,Below w.heap.size w W→(Instr.lookup 236 (.map (some P)) (.string n) false).run Tryz.prog W=.ok (.agg #[.string (yf (qK A n.data.toList)),.bool (uj A n.data.toList)]) W):=fun W hb=>(ho.later hb).look1 n hn
 have hz:=ZJ
 clear ho hg hn
 unfold diA11
 generalize yR A n.data.toList (qK A n.data.toList,is_)=A' at *
 generalize U1 A n.data.toList is_=r at *
 generalize zi (zh n.data.toList) 10=e0 at *
 generalize zi (zz A n.data.toList) 8=e2 at *
 generalize zi (!(uj A n.data.toList == is_)) 12=e3 at *
 generalize uj A n.data.toList=dd at *
 generalize yf (qK A n.data.toList)=ss at *
 by_cases h0:r=0
 ·
  subst h0
  rw [if_pos rfl]
  have HP2:=za (HP.out rfl)
  clear HP
  go_enter Tryz.func346,Tryz.ntmps346
  have HB0:Hid (Below w.heap.size w w):=Below.refl _ _
  go_wp2_with fail
  with_reducible refine (HN.out w HB0.out).mono ?_
  rintro e u1 ⟨rfl,hb⟩
  have HB1:=za (z7 HB0.out hb)
  clear hb
  go_wp2_with fail
  with_reducible refine (HI.out u1 HB1.out).mono ?_
  rintro e u2 ⟨rfl,hb⟩
  have HB2:=za (z7 HB1.out hb)
  clear hb
  go_wp2_with fail
  with_reducible refine (HL.out u2 HB2.out).mono ?_
  rintro e u3 ⟨rfl,hb⟩
  have HB3:=za (z7 HB2.out hb)
  clear hb
  go_wp2_with fail
  with_reducible refine (HFS.out _).mono ?_
  rintro e ub ⟨rfl,hub⟩
  have HB:Hid (Below w.heap.size w ub):=by
   show Below _ _ _
   rw [hub]; exact zb HB3.out _
  clear hub HFS HB0 HB1 HB2 HB3 HN HI HL
  have c0:=(HO.out.later HB.out).c0
  have hk:=HK.out _ HB.out
  have HBA:Hid (Below w.heap.size w (ub.alloc (.cells #[.string ss,.bool is_] 283))):=zb HB.out _
  clear HK
  go_wp2_with fail
  with_reducible refine (HP2.out _ HBA.out).mono ?_
  rintro e w5 ⟨rfl,hg⟩
  have HF:=za hg
  clear hg HP2 HB HBA c0 hk
  go_wp2
  go_ret
  exact ⟨rfl,HF.out⟩
 ·
  rw [if_neg h0]
  clear HP HK
  have q1:(r == 0)=false:=by simpa using h0
  have q2:¬ r=0:=h0
  go_enter Tryz.func346,Tryz.ntmps346
  have HB0:Hid (Below w.heap.size w w):=Below.refl _ _
  go_wp2_with fail
  with_reducible refine (HN.out w HB0.out).mono ?_
  rintro e u1 ⟨rfl,hb⟩
  have HB1:=za (z7 HB0.out hb)
  clear hb
  go_wp2_with fail
  with_reducible refine (HI.out u1 HB1.out).mono ?_
  rintro e u2 ⟨rfl,hb⟩
  have HB2:=za (z7 HB1.out hb)
  clear hb
  go_wp2_with fail
  with_reducible refine (HL.out u2 HB2.out).mono ?_
  rintro e u3 ⟨rfl,hb⟩
  have HB3:=za (z7 HB2.out hb)
  clear hb
  go_wp2_with fail
  with_reducible refine (HFS.out _).mono ?_
  rintro e ub ⟨rfl,hub⟩
  have HB:Hid (Below w.heap.size w ub):=by
   show Below _ _ _
   rw [hub]; exact zb HB3.out _
  clear hub HFS HB0 HB1 HB2 HB3 HN HI HL
  go_wp2
  go_ret
  exact ⟨rfl,HO.out.still HB.out⟩
def deA11 (A:zu) (n:List UInt8):zu:=if xY A n=0 then xK A n else A
def deL11 (A:zu) (L:zl) (n:List UInt8):zl:=if xY A n=0 then vx L n else L
def deS11 (A:zu) (S:zo) (n:List UInt8):zo:=if xY A n=0 then qY S n else S
set_option maxRecDepth 100000 in
theorem U4 (n:ByteArray) (ho:zt w0 w D P M G A L S) (hg:zn A L S k) (hn:n.size≤9223372036854775807) :
  Calls Tryz.prog 314 #[.pointer (some ⟨D,0,none⟩),.string n] w fun e w'=>e=.returned (.int .i64 (xY A n.data.toList))∧zE w0 w D P M G (deA11 A n.data.toList) (deL11 A L n.data.toList) (deS11 A S n.data.toList) w':=by
 have HN:Hid (∀ W,Below w.heap.size w W→Calls Tryz.prog 159 #[.string n] W fun e w'=>e=.returned (.int .i64 (zi (zh n.data.toList) 10))∧Below W.heap.size W w'):=fun W hb=>zW n W hn
 have HI:Hid (∀ W,Below w.heap.size w W→Calls Tryz.prog 319 #[.pointer (some ⟨D,0,none⟩),.string n] W fun e w'=>e=.returned (.int .i64 (zi (zz A n.data.toList) 8))∧Below W.heap.size W w'):=fun W hb=>yD n (ho.later hb) hn
 have HFS:Hid (∀ W:World,Calls Tryz.prog 152 #[.slice (some ⟨W.heap.size,0,none⟩) 2 2] (W.alloc (.cells #[.int .i64 (zi (zh n.data.toList) 10),.int .i64 (zi (zz A n.data.toList) 8)] 54)) fun e w'=>e=.returned (.int .i64 (xY A n.data.toList))∧w'=W.alloc (.cells #[.int .i64 (zi (zh n.data.toList) 10),.int .i64 (zi (zz A n.data.toList) 8)] 54)):=fun W=>by
  have:=vU W [zi (zh n.data.toList) 10,zi (zz A n.data.toList) 8] 54 (by simp)
  rw [UP] at this
  exact this
 have HO:=za ho
 have HDR:Hid (∀ W ty,Below w.heap.size w W→∃ w',(Builtin.delete_ #[236,9] ty #[.map (some P),.string n]).run Tryz.prog W=.ok (.tuple #[]) w'∧zE w0 w D P M G (xK A n.data.toList) L S w'):=fun W ty hb=>by
  obtain ⟨w',h1,h2⟩:=(ho.later hb).drop n hn ty
  exact ⟨w',h1,h2.ahead hb⟩
 have HMD:Hid (∀ W A1 L1 S1,zt w0 W D P M G A1 L1 S1→Calls Tryz.prog 239 #[.pointer (some ⟨M,0,none⟩),.string n] W fun e w'=>e=.returned (.bool (yE L1 n.data.toList))∧zE w0 W D P M G A1 (vx L1 n.data.toList) S1 w'):=fun W A1 L1 S1 h=>h.mdrop n hn
 have HGR:Hid (∀ W A1 L1,zt w0 W D P M G A1 L1 S→Calls Tryz.prog 320 #[.pointer (some ⟨G,0,none⟩),.string n] W fun e w'=>e=.returned (.int .i64 ((xc S n.data.toList).length:Nat))∧zE w0 W D P M G A1 L1 (qY S n.data.toList) w'):=fun W A1 L1 h=>h.gremove hg.grp n hn
 clear ho hg hn
 unfold deA11 deL11 deS11
 generalize xY A n.data.toList=r at *
 generalize zi (zh n.data.toList) 10=e0 at *
 generalize zi (zz A n.data.toList) 8=e2 at *
 by_cases h0:r=0
 ·
  subst h0
  rw [if_pos rfl,if_pos rfl,if_pos rfl]
  generalize (xc S n.data.toList).length=cnt at *
  generalize qY S n.data.toList=S' at *
  generalize xK A n.data.toList=A' at *
  go_enter Tryz.func314,Tryz.ntmps314
  have HB0:Hid (Below w.heap.size w w):=Below.refl _ _
  go_wp2_with fail
  with_reducible refine (HN.out w HB0.out).mono ?_
  rintro e u1 ⟨rfl,hb⟩
  have HB1:=za (z7 HB0.out hb)
  clear hb
  go_wp2_with fail
  with_reducible refine (HI.out u1 HB1.out).mono ?_
  rintro e u2 ⟨rfl,hb⟩
  have HB2:=za (z7 HB1.out hb)
  clear hb
  go_wp2_with fail
  with_reducible refine (HFS.out _).mono ?_
  rintro e ub ⟨rfl,hub⟩
  have HB:Hid (Below w.heap.size w ub):=by
   show Below _ _ _
   rw [hub]; exact zb HB2.out _
  clear hub HFS HB0 HB1 HB2 HN HI
  have c0:=(HO.out.later HB.out).c0
  have hdr:=fun ty=>HDR.out ub ty HB.out
  obtain ⟨w1,hrun,hgo⟩:=hdr 0
  have HG1:=za hgo
  have c1:=hgo.1.c1
  have HMD1:=za (HMD.out w1 _ _ _ hgo.1)
  clear hdr hgo HDR HMD
  go_wp2_with fail
  with_reducible refine HMD1.out.mono ?_
  rintro e w2 ⟨rfl,hgo⟩
  have HG2:=za (HG1.out.next hgo)
  have c2:=hgo.1.c2
  have HGR1:=za (HGR.out w2 _ _ hgo.1)
  clear hgo HGR HMD1 HG1 c1 c0 hrun
  go_wp2_with fail
  with_reducible refine HGR1.out.mono ?_
  rintro e w3 ⟨rfl,hgo⟩
  have HF:=za (HG2.out.next hgo)
  clear hgo HGR1 HG2 c2
  go_wp2
  go_ret
  exact ⟨rfl,HF.out⟩
 ·
  rw [if_neg h0,if_neg h0,if_neg h0]
  clear HDR HMD HGR
  have q1:(r == 0)=false:=by simpa using h0
  have q2:¬ r=0:=h0
  go_enter Tryz.func314,Tryz.ntmps314
  have HB0:Hid (Below w.heap.size w w):=Below.refl _ _
  go_wp2_with fail
  with_reducible refine (HN.out w HB0.out).mono ?_
  rintro e u1 ⟨rfl,hb⟩
  have HB1:=za (z7 HB0.out hb)
  clear hb
  go_wp2_with fail
  with_reducible refine (HI.out u1 HB1.out).mono ?_
  rintro e u2 ⟨rfl,hb⟩
  have HB2:=za (z7 HB1.out hb)
  clear hb
  go_wp2_with fail
  with_reducible refine (HFS.out _).mono ?_
  rintro e ub ⟨rfl,hub⟩
  have HB:Hid (Below w.heap.size w ub):=by
   show Below _ _ _
   rw [hub]; exact zb HB2.out _
  clear hub HFS HB0 HB1 HB2 HN HI
  go_wp2
  go_ret
  exact ⟨rfl,HO.out.still HB.out⟩
theorem sm11_eq (n m:List UInt8):(zh n=true∧vu m=true∧zz A n=true→fi A L n m=jy L n m∧VB A L n m=Uu L n m)∧(¬ (zh n=true∧vu m=true∧zz A n=true)→fi A L n m=(if zh n then (if vu m then (if zz A n then 0 else 8) else 11) else 10)∧VB A L n m=L):=by
 constructor
 ·
  rintro ⟨h1,h2,h3⟩
  have h4:jy L n m=0∨jy L n m=9:=by
   unfold jy
   rw [if_pos h1]
   by_cases hm:m=[]
   ·
    rw [if_pos hm]; exact .inl rfl
   ·
    have h5:ve m=true:=by unfold vu at h2; rw [decide_eq_false hm,Bool.false_or] at h2; exact h2
    rw [if_neg hm,if_pos h5]
    cases Jv L n (zN m)
    ·
     exact .inl rfl
    ·
     exact .inr rfl
  have e1:fi A L n m=jy L n m:=by
   unfold fi smF11
   rw [h1,h2,h3]
   rcases h4 with h | h <;> rw [h] <;> rfl
  refine ⟨e1,?_⟩
  unfold VB
  rw [e1]
  by_cases h:jy L n m=0
  ·
   rw [if_pos h]
  ·
   rw [if_neg h]; unfold Uu; rw [if_neg h]
 ·
  intro hq
  have e1:fi A L n m=(if zh n then (if vu m then (if zz A n then 0 else 8) else 11) else 10):=by
   unfold fi smF11
   revert hq
   cases zh n <;> cases vu m <;> cases zz A n <;> simp
  refine ⟨e1,?_⟩
  unfold VB
  rw [e1,if_neg]
  revert hq
  cases zh n <;> cases vu m <;> cases zz A n <;> simp
set_option maxRecDepth 100000 in
theorem Xo (n m:ByteArray) (ho:zt w0 w D P M G A L S) (hl:L.length<100) (h5:vY w) (hn:n.size≤9223372036854775807) (hm:m.size≤9223372036854775807) :
  Calls Tryz.prog 345 #[.pointer (some ⟨D,0,none⟩),.string n,.string m] w fun e w'=>e=.returned (.int .i64 (fi A L n.data.toList m.data.toList))∧zE w0 w D P M G A (VB A L n.data.toList m.data.toList) S w':=by
 have HN:Hid (∀ W,Below w.heap.size w W→Calls Tryz.prog 159 #[.string n] W fun e w'=>e=.returned (.int .i64 (zi (zh n.data.toList) 10))∧Below W.heap.size W w'):=fun W hb=>zW n W hn
 have HH:Hid (∀ W,Below w.heap.size w W→Calls Tryz.prog 360 #[.string m] W fun e w'=>e=.returned (.int .i64 (zi (vu m.data.toList) 11))∧Below W.heap.size W w'):=fun W hb=>VV m W hm (h5.later hb)
 have HI:Hid (∀ W,Below w.heap.size w W→Calls Tryz.prog 319 #[.pointer (some ⟨D,0,none⟩),.string n] W fun e w'=>e=.returned (.int .i64 (zi (zz A n.data.toList) 8))∧Below W.heap.size W w'):=fun W hb=>yD n (ho.later hb) hn
 have HFS:Hid (∀ W:World,Calls Tryz.prog 152 #[.slice (some ⟨W.heap.size,0,none⟩) 3 3] (W.alloc (.cells #[.int .i64 (zi (zh n.data.toList) 10),.int .i64 (zi (vu m.data.toList) 11),.int .i64 (zi (zz A n.data.toList) 8)] 54)) fun e w'=>e=.returned (.int .i64 (if zh n.data.toList then (if vu m.data.toList then (if zz A n.data.toList then 0 else 8) else 11) else 10))∧w'=W.alloc (.cells #[.int .i64 (zi (zh n.data.toList) 10),.int .i64 (zi (vu m.data.toList) 11),.int .i64 (zi (zz A n.data.toList) 8)] 54)):=fun W=>by
  have:=vU W [zi (zh n.data.toList) 10,zi (vu m.data.toList) 11,zi (zz A n.data.toList) 8] 54 (by simp)
  rw [first11_sm] at this
  exact this
 have HO:=za ho
 have HP:Hid (zh n.data.toList=true→∀ W,Below w.heap.size w W→Calls Tryz.prog 202 #[.pointer (some ⟨D,0,none⟩),.string n,.string m] W fun e w'=>e=.returned (.int .i64 (jy L n.data.toList m.data.toList))∧zE w0 w D P M G A (Uu L n.data.toList m.data.toList) S w'):=fun h1 W hb =>
  (jB n m (ho.later hb) hl (h5.later hb) (vE h1) hm).mono fun e w' ⟨he,hgo⟩=>⟨he,hgo.ahead hb⟩
 have HX:Hid ((zh n.data.toList=true∧vu m.data.toList=true∧zz A n.data.toList=true→fi A L n.data.toList m.data.toList=jy L n.data.toList m.data.toList∧VB A L n.data.toList m.data.toList=Uu L n.data.toList m.data.toList)∧(¬ (zh n.data.toList=true∧vu m.data.toList=true∧zz A n.data.toList=true)→fi A L n.data.toList m.data.toList=(if zh n.data.toList then (if vu m.data.toList then (if zz A n.data.toList then 0 else 8) else 11) else 10)∧VB A L n.data.toList m.data.toList=L)):=sm11_eq n.data.toList m.data.toList
 clear ho hl hn hm h5
 by_cases hq:zh n.data.toList=true∧vu m.data.toList=true∧zz A n.data.toList=true
 ·
  obtain ⟨x1,x2⟩:=HX.out.1 hq
  rw [x1,x2]
  have HP2:=za (HP.out hq.1)
  obtain ⟨q1,q2,q3⟩:=hq
  rw [q1,q2,q3] at HFS
  rw [if_pos rfl,if_pos rfl,if_pos rfl] at HFS
  rw [q1] at HN
  rw [q2] at HH
  rw [q3] at HI
  clear HP HX x1 x2 q1 q2 q3
  generalize zi true 10=e0 at *
  generalize zi true 11=e1 at *
  generalize zi true 8=e2 at *
  generalize jy L n.data.toList m.data.toList=r at *
  generalize Uu L n.data.toList m.data.toList=L' at *
  go_enter Tryz.func345,Tryz.ntmps345
  have HB0:Hid (Below w.heap.size w w):=Below.refl _ _
  go_wp2_with fail
  with_reducible refine (HN.out w HB0.out).mono ?_
  rintro e u1 ⟨rfl,hb⟩
  have HB1:=za (z7 HB0.out hb)
  clear hb
  go_wp2_with fail
  with_reducible refine (HH.out u1 HB1.out).mono ?_
  rintro e u2 ⟨rfl,hb⟩
  have HB2:=za (z7 HB1.out hb)
  clear hb
  go_wp2_with fail
  with_reducible refine (HI.out u2 HB2.out).mono ?_
  rintro e u3 ⟨rfl,hb⟩
  have HB3:=za (z7 HB2.out hb)
  clear hb
  go_wp2_with fail
  with_reducible refine (HFS.out _).mono ?_
  rintro e ub ⟨rfl,hub⟩
  have HB:Hid (Below w.heap.size w ub):=by
   show Below _ _ _
   rw [hub]; exact zb HB3.out _
  clear hub HFS HB0 HB1 HB2 HB3 HN HH HI
  go_wp2_with fail
  with_reducible refine (HP2.out _ HB.out).mono ?_
  rintro e w5 ⟨rfl,hg⟩
  have HF:=za hg
  clear hg HP2 HB
  go_wp2
  go_ret
  exact ⟨rfl,HF.out⟩
 ·
  obtain ⟨x1,x2⟩:=HX.out.2 hq
  rw [x1,x2]
  have h0:¬ (if zh n.data.toList then (if vu m.data.toList then (if zz A n.data.toList then (0:Int) else 8) else 11) else 10)=0:=by
   revert hq
   cases zh n.data.toList <;> cases vu m.data.toList <;> cases zz A n.data.toList <;> simp
  clear HP HX x1 x2 hq
  generalize (if zh n.data.toList then (if vu m.data.toList then (if zz A n.data.toList then (0:Int) else 8) else 11) else 10)=r at *
  generalize zi (zh n.data.toList) 10=e0 at *
  generalize zi (vu m.data.toList) 11=e1 at *
  generalize zi (zz A n.data.toList) 8=e2 at *
  have q1:(r == 0)=false:=by simpa using h0
  have q2:¬ r=0:=h0
  have q3:(r != 0)=true:=by simpa using h0
  go_enter Tryz.func345,Tryz.ntmps345
  have HB0:Hid (Below w.heap.size w w):=Below.refl _ _
  go_wp2_with fail
  with_reducible refine (HN.out w HB0.out).mono ?_
  rintro e u1 ⟨rfl,hb⟩
  have HB1:=za (z7 HB0.out hb)
  clear hb
  go_wp2_with fail
  with_reducible refine (HH.out u1 HB1.out).mono ?_
  rintro e u2 ⟨rfl,hb⟩
  have HB2:=za (z7 HB1.out hb)
  clear hb
  go_wp2_with fail
  with_reducible refine (HI.out u2 HB2.out).mono ?_
  rintro e u3 ⟨rfl,hb⟩
  have HB3:=za (z7 HB2.out hb)
  clear hb
  go_wp2_with fail
  with_reducible refine (HFS.out _).mono ?_
  rintro e ub ⟨rfl,hub⟩
  have HB:Hid (Below w.heap.size w ub):=by
   show Below _ _ _
   rw [hub]; exact zb HB3.out _
  clear hub HFS HB0 HB1 HB2 HB3 HN HH HI
  go_wp2
  go_ret
  exact ⟨rfl,HO.out.still HB.out⟩
set_option maxRecDepth 100000 in
theorem Fs (g n:ByteArray) (ho:zt w0 w D P M G A L S) (hg:zn A L S k) (h9:k≤900) (hz:g.size≤9223372036854775807) (hn:n.size≤9223372036854775807) :
  Calls Tryz.prog 350 #[.pointer (some ⟨D,0,none⟩),.string g,.string n] w fun e w'=>e=.returned (.int .i64 (YO A S g.data.toList n.data.toList))∧zE w0 w D P M G A L (joS11 A S g.data.toList n.data.toList) w':=by
 have HN:Hid (∀ W,Below w.heap.size w W→Calls Tryz.prog 159 #[.string g] W fun e w'=>e=.returned (.int .i64 (zi (zh g.data.toList) 10))∧Below W.heap.size W w'):=fun W hb=>zW g W hz
 have HH:Hid (∀ W,Below w.heap.size w W→Calls Tryz.prog 159 #[.string n] W fun e w'=>e=.returned (.int .i64 (zi (zh n.data.toList) 10))∧Below W.heap.size W w'):=fun W hb=>zW n W hn
 have HI:Hid (∀ W,Below w.heap.size w W→Calls Tryz.prog 319 #[.pointer (some ⟨D,0,none⟩),.string n] W fun e w'=>e=.returned (.int .i64 (zi (zz A n.data.toList) 8))∧Below W.heap.size W w'):=fun W hb=>yD n (ho.later hb) hn
 have HFS:Hid (∀ W:World,Calls Tryz.prog 152 #[.slice (some ⟨W.heap.size,0,none⟩) 3 3] (W.alloc (.cells #[.int .i64 (zi (zh g.data.toList) 10),.int .i64 (zi (zh n.data.toList) 10),.int .i64 (zi (zz A n.data.toList) 8)] 54)) fun e w'=>e=.returned (.int .i64 (yW A g.data.toList n.data.toList))∧w'=W.alloc (.cells #[.int .i64 (zi (zh g.data.toList) 10),.int .i64 (zi (zh n.data.toList) 10),.int .i64 (zi (zz A n.data.toList) 8)] 54)):=fun W=>by
  have:=vU W [zi (zh g.data.toList) 10,zi (zh n.data.toList) 10,zi (zz A n.data.toList) 8] 54 (by simp)
  rw [UQ] at this
  exact this
 have HO:=za ho
 have HP:Hid (∀ W,Below w.heap.size w W→Calls Tryz.prog 200 #[.pointer (some ⟨G,0,none⟩),.string g,.string n] W fun e w'=>e=.returned (.int .i64 (qF S g.data.toList n.data.toList))∧zE w0 w D P M G A L (jb S g.data.toList n.data.toList) w'):=fun W hb =>
  ((ho.later hb).gjoin hg.grp h9 g n hz hn).mono fun e w' ⟨he,hgo⟩=>⟨he,hgo.ahead hb⟩
 clear ho hg h9 hz hn
 unfold YO joS11
 generalize qF S g.data.toList n.data.toList=x at *
 generalize jb S g.data.toList n.data.toList=S' at *
 generalize yW A g.data.toList n.data.toList=r at *
 generalize zi (zh g.data.toList) 10=e0 at *
 generalize zi (zh n.data.toList) 10=e1 at *
 generalize zi (zz A n.data.toList) 8=e2 at *
 by_cases h0:r=0
 ·
  subst h0
  rw [if_pos rfl,if_pos rfl]
  go_enter Tryz.func350,Tryz.ntmps350
  have HB0:Hid (Below w.heap.size w w):=Below.refl _ _
  go_wp2_with fail
  with_reducible refine (HN.out w HB0.out).mono ?_
  rintro e u1 ⟨rfl,hb⟩
  have HB1:=za (z7 HB0.out hb)
  clear hb
  go_wp2_with fail
  with_reducible refine (HH.out u1 HB1.out).mono ?_
  rintro e u2 ⟨rfl,hb⟩
  have HB2:=za (z7 HB1.out hb)
  clear hb
  go_wp2_with fail
  with_reducible refine (HI.out u2 HB2.out).mono ?_
  rintro e u3 ⟨rfl,hb⟩
  have HB3:=za (z7 HB2.out hb)
  clear hb
  go_wp2_with fail
  with_reducible refine (HFS.out _).mono ?_
  rintro e ub ⟨rfl,hub⟩
  have HB:Hid (Below w.heap.size w ub):=by
   show Below _ _ _
   rw [hub]; exact zb HB3.out _
  clear hub HFS HB0 HB1 HB2 HB3 HN HH HI
  have c2:=(HO.out.later HB.out).c2
  go_wp2_with fail
  with_reducible refine (HP.out _ HB.out).mono ?_
  rintro e w5 ⟨rfl,hg⟩
  have HF:=za hg
  clear hg HP HB c2
  go_wp2
  go_ret
  exact ⟨rfl,HF.out⟩
 ·
  rw [if_neg h0,if_neg h0]
  clear HP
  have q1:(r == 0)=false:=by simpa using h0
  have q2:¬ r=0:=h0
  have q3:(r != 0)=true:=by simpa using h0
  go_enter Tryz.func350,Tryz.ntmps350
  have HB0:Hid (Below w.heap.size w w):=Below.refl _ _
  go_wp2_with fail
  with_reducible refine (HN.out w HB0.out).mono ?_
  rintro e u1 ⟨rfl,hb⟩
  have HB1:=za (z7 HB0.out hb)
  clear hb
  go_wp2_with fail
  with_reducible refine (HH.out u1 HB1.out).mono ?_
  rintro e u2 ⟨rfl,hb⟩
  have HB2:=za (z7 HB1.out hb)
  clear hb
  go_wp2_with fail
  with_reducible refine (HI.out u2 HB2.out).mono ?_
  rintro e u3 ⟨rfl,hb⟩
  have HB3:=za (z7 HB2.out hb)
  clear hb
  go_wp2_with fail
  with_reducible refine (HFS.out _).mono ?_
  rintro e ub ⟨rfl,hub⟩
  have HB:Hid (Below w.heap.size w ub):=by
   show Below _ _ _
   rw [hub]; exact zb HB3.out _
  clear hub HFS HB0 HB1 HB2 HB3 HN HH HI
  go_wp2
  go_ret
  exact ⟨rfl,HO.out.still HB.out⟩
set_option maxRecDepth 100000 in
theorem QN (g n:ByteArray) (ho:zt w0 w D P M G A L S) (hz:g.size≤9223372036854775807) (hn:n.size≤9223372036854775807) :
  Calls Tryz.prog 351 #[.pointer (some ⟨D,0,none⟩),.string g,.string n] w fun e w'=>e=.returned (.int .i64 (YN A S g.data.toList n.data.toList))∧zE w0 w D P M G A L (leS11 A S g.data.toList n.data.toList) w':=by
 have HN:Hid (∀ W,Below w.heap.size w W→Calls Tryz.prog 159 #[.string g] W fun e w'=>e=.returned (.int .i64 (zi (zh g.data.toList) 10))∧Below W.heap.size W w'):=fun W hb=>zW g W hz
 have HH:Hid (∀ W,Below w.heap.size w W→Calls Tryz.prog 159 #[.string n] W fun e w'=>e=.returned (.int .i64 (zi (zh n.data.toList) 10))∧Below W.heap.size W w'):=fun W hb=>zW n W hn
 have HI:Hid (∀ W,Below w.heap.size w W→Calls Tryz.prog 319 #[.pointer (some ⟨D,0,none⟩),.string n] W fun e w'=>e=.returned (.int .i64 (zi (zz A n.data.toList) 8))∧Below W.heap.size W w'):=fun W hb=>yD n (ho.later hb) hn
 have HFS:Hid (∀ W:World,Calls Tryz.prog 152 #[.slice (some ⟨W.heap.size,0,none⟩) 3 3] (W.alloc (.cells #[.int .i64 (zi (zh g.data.toList) 10),.int .i64 (zi (zh n.data.toList) 10),.int .i64 (zi (zz A n.data.toList) 8)] 54)) fun e w'=>e=.returned (.int .i64 (yW A g.data.toList n.data.toList))∧w'=W.alloc (.cells #[.int .i64 (zi (zh g.data.toList) 10),.int .i64 (zi (zh n.data.toList) 10),.int .i64 (zi (zz A n.data.toList) 8)] 54)):=fun W=>by
  have:=vU W [zi (zh g.data.toList) 10,zi (zh n.data.toList) 10,zi (zz A n.data.toList) 8] 54 (by simp)
  rw [UQ] at this
  exact this
 have HO:=za ho
 have HP:Hid (∀ W,Below w.heap.size w W→Calls Tryz.prog 365 #[.pointer (some ⟨G,0,none⟩),.string g,.string n] W fun e w'=>e=.returned (.int .i64 (Y7 S g.data.toList n.data.toList))∧zE w0 w D P M G A L (Y6 S g.data.toList n.data.toList) w'):=fun W hb =>
  ((ho.later hb).gleave g n hz hn).mono fun e w' ⟨he,hgo⟩=>⟨he,hgo.ahead hb⟩
 clear ho  hz hn
 unfold YN leS11
 generalize Y7 S g.data.toList n.data.toList=x at *
 generalize Y6 S g.data.toList n.data.toList=S' at *
 generalize yW A g.data.toList n.data.toList=r at *
 generalize zi (zh g.data.toList) 10=e0 at *
 generalize zi (zh n.data.toList) 10=e1 at *
 generalize zi (zz A n.data.toList) 8=e2 at *
 by_cases h0:r=0
 ·
  subst h0
  rw [if_pos rfl,if_pos rfl]
  go_enter Tryz.func351,Tryz.ntmps351
  have HB0:Hid (Below w.heap.size w w):=Below.refl _ _
  go_wp2_with fail
  with_reducible refine (HN.out w HB0.out).mono ?_
  rintro e u1 ⟨rfl,hb⟩
  have HB1:=za (z7 HB0.out hb)
  clear hb
  go_wp2_with fail
  with_reducible refine (HH.out u1 HB1.out).mono ?_
  rintro e u2 ⟨rfl,hb⟩
  have HB2:=za (z7 HB1.out hb)
  clear hb
  go_wp2_with fail
  with_reducible refine (HI.out u2 HB2.out).mono ?_
  rintro e u3 ⟨rfl,hb⟩
  have HB3:=za (z7 HB2.out hb)
  clear hb
  go_wp2_with fail
  with_reducible refine (HFS.out _).mono ?_
  rintro e ub ⟨rfl,hub⟩
  have HB:Hid (Below w.heap.size w ub):=by
   show Below _ _ _
   rw [hub]; exact zb HB3.out _
  clear hub HFS HB0 HB1 HB2 HB3 HN HH HI
  have c2:=(HO.out.later HB.out).c2
  go_wp2_with fail
  with_reducible refine (HP.out _ HB.out).mono ?_
  rintro e w5 ⟨rfl,hg⟩
  have HF:=za hg
  clear hg HP HB c2
  go_wp2
  go_ret
  exact ⟨rfl,HF.out⟩
 ·
  rw [if_neg h0,if_neg h0]
  clear HP
  have q1:(r == 0)=false:=by simpa using h0
  have q2:¬ r=0:=h0
  have q3:(r != 0)=true:=by simpa using h0
  go_enter Tryz.func351,Tryz.ntmps351
  have HB0:Hid (Below w.heap.size w w):=Below.refl _ _
  go_wp2_with fail
  with_reducible refine (HN.out w HB0.out).mono ?_
  rintro e u1 ⟨rfl,hb⟩
  have HB1:=za (z7 HB0.out hb)
  clear hb
  go_wp2_with fail
  with_reducible refine (HH.out u1 HB1.out).mono ?_
  rintro e u2 ⟨rfl,hb⟩
  have HB2:=za (z7 HB1.out hb)
  clear hb
  go_wp2_with fail
  with_reducible refine (HI.out u2 HB2.out).mono ?_
  rintro e u3 ⟨rfl,hb⟩
  have HB3:=za (z7 HB2.out hb)
  clear hb
  go_wp2_with fail
  with_reducible refine (HFS.out _).mono ?_
  rintro e ub ⟨rfl,hub⟩
  have HB:Hid (Below w.heap.size w ub):=by
   show Below _ _ _
   rw [hub]; exact zb HB3.out _
  clear hub HFS HB0 HB1 HB2 HB3 HN HH HI
  go_wp2
  go_ret
  exact ⟨rfl,HO.out.still HB.out⟩
set_option maxRecDepth 100000 in
theorem Y4 (g:ByteArray) (ho:zt w0 w D P M G A L S) (hg:zn A L S k) (hz:g.size≤9223372036854775807) :
  Calls Tryz.prog 348 #[.pointer (some ⟨D,0,none⟩),.string g] w fun e w'=>e=.returned (.int .i64 (qE S g.data.toList))∧zE w0 w D P M G A L (jr S g.data.toList) w':=by
 have HP:=za (ho.gmake hg.grp g hz)
 have c2:=ho.c2
 clear ho hz
 generalize qE S g.data.toList=x at *
 generalize jr S g.data.toList=S' at *
 go_enter Tryz.func348,Tryz.ntmps348
 go_wp2_with fail
 with_reducible refine HP.out.mono ?_
 rintro e w5 ⟨rfl,hg⟩
 have HF:=za hg
 clear hg HP c2
 go_wp2
 go_ret
 exact ⟨rfl,HF.out⟩
set_option maxRecDepth 100000 in
theorem Yd (g:ByteArray) (ho:zt w0 w D P M G A L S) (hz:g.size≤9223372036854775807) :
  Calls Tryz.prog 349 #[.pointer (some ⟨D,0,none⟩),.string g] w fun e w'=>e=.returned (.int .i64 (qg S g.data.toList))∧zE w0 w D P M G A L (fP S g.data.toList) w':=by
 have HP:=za (ho.gdrop g hz)
 have c2:=ho.c2
 clear ho hz
 generalize qg S g.data.toList=x at *
 generalize fP S g.data.toList=S' at *
 go_enter Tryz.func349,Tryz.ntmps349
 go_wp2_with fail
 with_reducible refine HP.out.mono ?_
 rintro e w5 ⟨rfl,hg⟩
 have HF:=za hg
 clear hg HP c2
 go_wp2
 go_ret
 exact ⟨rfl,HF.out⟩
end
end Go.Proofs.YteegkoicalbkbaaGreatDoor
namespace Go.Proofs.YteegkoicalbkbaaGreatDoor
open Go.RowKit Go.Maps Go.Sort Go.Shelf
set_option linter.unusedSectionVars false

theorem datV_keys11 {V:Type} (e:V→DataW Unit) (L:yT V):strKeys (uA e L)=zc L:=by
 simp only [uA,strKeys,List.map_map]; rfl
section
variable [Fr11] {w0 w:World} {D P M G:Nat} {A:zu} {L:zl} {S:zo} {k:Nat}
set_option maxRecDepth 100000 in
theorem fp (ho:zt w0 w D P M G A L S) (hr:zG A) (hf:A.length≤12):Calls Tryz.prog 325 #[.pointer (some ⟨D,0,none⟩)] w (zX (zc A) w):=by
 have eg:∀ args w,(callFunc 333 args).run Tryz.prog w=.ok (.enter 333 args) w:=enters_of Tryz.func333 (by kernel_rfl) rfl
 have bl:Below w.heap.size w (w.alloc (.cells #[.map (some P)] 236)):=zb (Below.refl _ _) _
 have cS:∃ S:List (List UInt8)→Prop,(∀ ss,S ss→ss.Perm (zc A))∧SeqGives Fence.wide 2 Tryz.prog 333 #[.pointer (some ⟨w.heap.size,0,none⟩)] encStr S A.length (w.alloc (.cells #[.map (some P)] 236)):=by
  have ho':=ho
  obtain ⟨p,q,LM,pg,T,hd,_⟩:=ho'
  have hown:=World.ownsMap.alloc hd.acc (.cells #[.map (some P)] 236)
  have h:=AnyZ.keys_gives (ρ:=Tryz.keys11_ren) { Tryz.keys11 with } Fence.wide 2 trivial rfl (by omega) w.heap.size P _ (uA ea11 A) _ (by simp) (by simp) hown
  rw [vy] at h
  exact ⟨_,fun ss h=>by rw [datV_keys11] at h; exact h,h⟩
 obtain ⟨Ss,hS,hseq⟩:=cS
 have HK:Hid (Calls Tryz.prog 330 #[.map (some P)] w fun e w'=>e=.returned (.func (.func 333) #[] #[.pointer (some ⟨w.heap.size,0,none⟩)])∧w'=w.alloc (.cells #[.map (some P)] 236)) :=
  (callsIn_wide (n:=4)).1 (AnyZ.keys_in Tryz.keys11 Fence.wide 4 trivial rfl (some P) w)
 have HSF:=za (fm _ _ Ss A.length _ eg (by omega) (fun ss h=>by rw [(hS ss h).length_eq,xu]; omega) hseq)
 have HSS:Hid (∀ ss,Ss ss→ss.length=A.length∧ss.mergeSort (fun x y=>!(ltOf Lib.compareBytes) y x)=zc A):=fun ss h=>by
  have hp:=hS ss h
  exact ⟨by rw [hp.length_eq,xu],JI hr.names hp _ (fun x y=>by rw [lt7])⟩
 have hc:=ho.c0
 have BL:=za bl
 clear hseq hS ho bl
 go_enter Tryz.func325,Tryz.ntmps325
 go_wp2_with fail
 with_reducible refine HK.out.mono ?_
 rintro e w1 ⟨rfl,rfl⟩
 go_wp2_with fail
 with_reducible refine HSF.out.mono ?_
 rintro e w2 ⟨v,ss,rfl,hss,hrow,hnil,hb⟩
 obtain ⟨hl,hm⟩:=HSS.out ss hss
 have HF:Hid (zX (zc A) w (.returned v) w2):=by
  rw [hl,hm] at hrow
  refine ⟨v,rfl,?_,z7 BL.out hb⟩
  rw [xu]
  exact zy hrow (by simp)
 clear hss hrow hnil hb hl hm HSS HSF HK hc BL
 go_wp2
 go_ret
 exact HF.out

theorem zerou11 (w:World):(zeroValue 192).run Tryz.prog w=.ok (.agg #[.string ⟨#[]⟩,.string ⟨#[]⟩,.string ⟨#[]⟩,.bool false,.slice none 0 0]) w:=by kernel_rfl
def ZF (A:zu) (L:zl) (S:zo) (n:ByteArray) (w W:World) (v:Value):Prop :=
 ∃ ga gc,v=.agg #[.string n,.string (yf (qK A n.data.toList)),.string (yf (yM L n.data.toList)),.bool (uj A n.data.toList),.slice ga (xc S n.data.toList).length gc]∧W.ownsRow w.heap.size 9 1 (.slice ga (xc S n.data.toList).length gc) (xc S n.data.toList).length ((xc S n.data.toList).map encStr)
def Tld11 (b:Nat) (n s m:ByteArray) (d:Bool) (gs:List (List UInt8)) (w W:World):Prop :=
 ∃ ga gc,un W b (.string n) (.string s) (.string m) (.bool d) (.slice ga gs.length gc)∧W.ownsRow w.heap.size 9 1 (.slice ga gs.length gc) gs.length (gs.map encStr)∧Below w.heap.size w W
def YTl11 (D G b5:Nat) (n s m:ByteArray) (d:Bool) (gs:List (List UInt8)) (w:World):Nat→Value→World→Prop
 | 0,v,_=>v=.string n
 | 1,v,_=>v=.pointer (some ⟨b5,0,none⟩)
 | 2,v,_=>v=.string s
 | 3,v,_=>v=.string m
 | 4,v,_=>v=.pointer (some ⟨b5,1,none⟩)
 | 5,v,_=>v=.bool d
 | 8,v,_=>v=.pointer (some ⟨D,2,none⟩)
 | 9,v,_=>v=.pointer (some ⟨G,0,none⟩)
 | 10,v,_=>v=.string n
 | 11,v,W=>∃ ga gc,v=.slice ga gs.length gc∧W.ownsRow w.heap.size 9 1 (.slice ga gs.length gc) gs.length (gs.map encStr)
 | 12,v,W=>∃ ga gc,v=.agg #[.string n,.string s,.string m,.bool d,.slice ga gs.length gc]∧W.ownsRow w.heap.size 9 1 (.slice ga gs.length gc) gs.length (gs.map encStr)
 | _,v,_=>v=.pointer (some ⟨D,0,none⟩)
theorem zU {w w':World} {b:Nat} {e size n:Nat} {v:Value} {xs:List Value} (h:w.ownsRow b e size v n xs) (hb:Below w.heap.size w w'):w'.ownsRow b e size v n xs:=by
 refine ⟨h.1,?_⟩
 rcases h.2 with hn | ⟨g,cap,cur,e1,h0,hg,hr⟩
 ·
  exact .inl hn
 ·
  exact .inr ⟨g,cap,cur,e1,h0,(hb.block g (Array.getElem?_eq_some_iff.1 hg).1).trans hg,hr⟩
theorem YTl11_keep {D G b5:Nat} {n s m:ByteArray} {d:Bool} {gs:List (List UInt8)} {w W W':World} (hb:Below W.heap.size W W') (j:Nat) (u:Value) (h:YTl11 D G b5 n s m d gs w j u W):YTl11 D G b5 n s m d gs w j u W':=by
 match j,h with
 | 0,h=>exact h
 | 1,h=>exact h
 | 2,h=>exact h
 | 3,h=>exact h
 | 4,h=>exact h
 | 5,h=>exact h
 | 6,h=>exact h
 | 7,h=>exact h
 | 8,h=>exact h
 | 9,h=>exact h
 | 10,h=>exact h
 | 11,h =>
  obtain ⟨ga,gc,e,hr⟩:=h
  exact ⟨ga,gc,e,zU hr hb⟩
 | 12,h =>
  obtain ⟨ga,gc,e,hr⟩:=h
  exact ⟨ga,gc,e,zU hr hb⟩
 | _+13,h=>exact h
set_option maxRecDepth 100000 in
theorem Yr (n:ByteArray) (ho:zt w0 w D P M G A L S) (hk:zD S k) (hn:n.size≤9223372036854775807) :
  Calls Tryz.prog 370 #[.pointer (some ⟨D,0,none⟩),.string n] w fun e w'=>∃ v,e=.returned v∧ZF A L S n w w' v∧Below w.heap.size w w':=by
 have HO:=za ho
 have hz:=ZJ
 have hzu:=zerou11
 have HLK:Hid (∀ W,Below w.heap.size w W→(Instr.lookup 236 (.map (some P)) (.string n) false).run Tryz.prog W=.ok (.agg #[.string (yf (qK A n.data.toList)),.bool (uj A n.data.toList)]) W):=fun W hb=>(ho.later hb).look1 n hn
 have HOF:Hid (∀ W,Below w.heap.size w W→Calls Tryz.prog 375 #[.pointer (some ⟨M,0,none⟩),.string n] W fun e w'=>e=.returned (.tuple #[.string (yf (yM L n.data.toList)),.bool (yE L n.data.toList)])∧w'=W):=fun W hb=>(ho.later hb).mof n hn
 have HGO:Hid (∀ W,Below w.heap.size w W→Calls Tryz.prog 328 #[.pointer (some ⟨G,0,none⟩),.string n] W (zX (xc S n.data.toList) W)):=fun W hb=>(ho.later hb).gof hk n hn
 unfold ZF
 clear ho hk hn
 generalize yf (qK A n.data.toList)=ss at *
 generalize uj A n.data.toList=dd at *
 generalize yf (yM L n.data.toList)=mm at *
 generalize yE L n.data.toList=hm at *
 generalize xc S n.data.toList=gs at *
 have hb1:Below w.heap.size w (w.alloc (.cells #[.string ⟨#[]⟩,.string ⟨#[]⟩,.string ⟨#[]⟩,.bool false,.slice none 0 0] 192)):=zb (Below.refl _ _) _
 have hb2:Below w.heap.size w ((w.alloc (.cells #[.string ⟨#[]⟩,.string ⟨#[]⟩,.string ⟨#[]⟩,.bool false,.slice none 0 0] 192)).alloc (.cells #[.string ss,.bool dd] 283)):=zb hb1 _
 have hz1:un (w.alloc (.cells #[.string ⟨#[]⟩,.string ⟨#[]⟩,.string ⟨#[]⟩,.bool false,.slice none 0 0] 192)) w.heap.size (.string ⟨#[]⟩) (.string ⟨#[]⟩) (.string ⟨#[]⟩) (.bool false) (.slice none 0 0):=heap_alloc_new w _
 have HZ:Hid (un ((w.alloc (.cells #[.string ⟨#[]⟩,.string ⟨#[]⟩,.string ⟨#[]⟩,.bool false,.slice none 0 0] 192)).alloc (.cells #[.string ss,.bool dd] 283)) w.heap.size (.string ⟨#[]⟩) (.string ⟨#[]⟩) (.string ⟨#[]⟩) (.bool false) (.slice none 0 0)):=(Below.heap_alloc _ _ _ (by simp)).trans hz1
 have HA:=za (ac11_new (w.alloc (.cells #[.string ⟨#[]⟩,.string ⟨#[]⟩,.string ⟨#[]⟩,.bool false,.slice none 0 0] 192)) ss dd)
 have c0:=(HO.out.later hb1).c0
 have c1:=(HO.out.later hb2).c1
 have hl:=HLK.out _ hb1
 have HOF1:=za (HOF.out _ hb2)
 have HB2:=za hb2
 clear hb1 hb2 hz1 HOF
 go_enter Tryz.func370,Tryz.ntmps370
 go_wp2_with fail
 with_reducible refine HOF1.out.mono ?_
 rintro e w2 ⟨rfl,hw2⟩
 rw [← hw2] at HZ HA HB2
 have hsz:(w.alloc (.cells #[.string ⟨#[]⟩,.string ⟨#[]⟩,.string ⟨#[]⟩,.bool false,.slice none 0 0] 192)).heap.size=w.heap.size+1:=by simp
 rw [hsz] at HA
 have HLT:=za (HA.out.lt)
 clear hw2 hl HOF1 c0 c1 HLK hsz
 go_wp2_with fail
 have HLT2:Hid (w.heap.size<w2.heap.size):=by have:=HLT.out; show _<_; omega
 have HSO:Hid (∀ W,Below w2.heap.size w2 W→∀ ga gc,W.ownsRow w.heap.size 9 1 (.slice ga gs.length gc) gs.length (gs.map encStr)→Tld11 w.heap.size n ss mm dd gs w (set5 W w.heap.size (.string n) (.string ss) (.string mm) (.bool dd) (.slice ga gs.length gc))):=fun W hb ga gc ho=>by
  have hz:un W w.heap.size (.string ⟨#[]⟩) (.string ⟨#[]⟩) (.string ⟨#[]⟩) (.bool false) (.slice none 0 0):=(hb.block _ HLT2.out).trans HZ.out
  have ht:zg (fun i=>i=w.heap.size) W (set5 W w.heap.size (.string n) (.string ss) (.string mm) (.bool dd) (.slice ga gs.length gc)):=Up (zg.refl (fun i=>i=w.heap.size) W) w.heap.size (fun _=>rfl) _ _ _ _ _
  have hbw:=z7 HB2.out hb
  refine ⟨ga,gc,hz.set5 _ _ _ _ _,?_,hbw.trans (ht.below_at hbw.size (fun i e=>by omega))⟩
  refine ⟨ho.1,?_⟩
  rcases ho.2 with hn | ⟨g,cap,cur,e1,h0,hg,hr⟩
  ·
   exact .inl hn
  ·
   have hne:g≠w.heap.size:=fun e=>by
    subst e
    rw [show W.heap[w.heap.size]? = _ from hz] at hg
    injection hg with hg
    injection hg with _ h
    exact absurd h (by decide)
   exact .inr ⟨g,cap,cur,e1,h0,(ht.block g (Array.getElem?_eq_some_iff.1 hg).1 hne).trans hg,hr⟩
 refine zB (by kernel_rfl) 13 (fun W=>Below w2.heap.size w2 W) (fun W=>Tld11 w.heap.size n ss mm dd gs w W) (YTl11 D G (w.heap.size+1) n ss mm dd gs w) (fun _=>True) ?F ?hF (by kernel_rfl) (by kernel_rfl) (by kernel_rfl) (by kernel_rfl) (by decide) (zQ (Below.refl _ _)) ?step ?fin
 case hF =>
  intro x
  simp only [List.map_cons,List.map_nil,xU,Act.put,List.setIfInBounds_toArray,List.set_cons_zero,List.set_cons_succ,Nat.zero_add,Nat.reduceAdd]
  exact rfl
 case step =>
  refine ⟨?_,?_,?_,?_,?_,?_,?_,?_,?_,?_,?_,?_,?_,?_,trivial⟩
  ·
   intro x W
   refine ⟨fun _ hW hdep K hK=>?_,(fun h=>absurd h (by decide)),(fun h=>absurd h (by decide))⟩
   clear hdep
   go_simp
   exact hK _ _ rfl hW (fun _ _ h=>h)
  ·
   intro x W
   refine ⟨fun _ hW hdep K hK=>?_,(fun h=>absurd h (by decide)),(fun h=>absurd h (by decide))⟩
   clear hdep
   go_simp
   exact hK _ _ rfl hW (fun _ _ h=>h)
  ·
   intro x W
   refine ⟨fun _ hW hdep K hK=>?_,(fun h=>absurd h (by decide)),(fun h=>absurd h (by decide))⟩
   have h1:x 1=_:=hdep 1 rfl
   have hx:=HA.out.later hW
   have c0:=hx.c0
   clear hdep
   simp only [h1] at hK
   go_simp
   exact hK _ _ rfl hW (fun _ _ h=>h)
  ·
   intro x W
   refine ⟨fun _ hW hdep K hK=>?_,(fun h=>absurd h (by decide)),(fun h=>absurd h (by decide))⟩
   clear hdep
   go_simp
   exact hK _ _ rfl hW (fun _ _ h=>h)
  ·
   intro x W
   refine ⟨fun _ hW hdep K hK=>?_,(fun h=>absurd h (by decide)),(fun h=>absurd h (by decide))⟩
   clear hdep
   go_simp
   exact hK _ _ rfl hW (fun _ _ h=>h)
  ·
   intro x W
   refine ⟨fun _ hW hdep K hK=>?_,(fun h=>absurd h (by decide)),(fun h=>absurd h (by decide))⟩
   have h4:x 4=_:=hdep 4 rfl
   have hx:=HA.out.later hW
   have c1:=hx.c1
   clear hdep
   simp only [h4] at hK
   go_simp
   exact hK _ _ rfl hW (fun _ _ h=>h)
  ·
   intro x W
   refine ⟨fun _ hW hdep K hK=>?_,(fun h=>absurd h (by decide)),(fun h=>absurd h (by decide))⟩
   clear hdep
   go_simp
   exact hK _ _ rfl hW (fun _ _ h=>h)
  ·
   intro x W
   refine ⟨fun _ hW hdep K hK=>?_,(fun h=>absurd h (by decide)),(fun h=>absurd h (by decide))⟩
   have h6:x 6=_:=hdep 6 rfl
   clear hdep
   simp only [h6] at hK
   go_simp
   exact hK _ _ rfl hW (fun _ _ h=>h)
  ·
   intro x W
   refine ⟨fun _ hW hdep K hK=>?_,(fun h=>absurd h (by decide)),(fun h=>absurd h (by decide))⟩
   have h7:x 7=_:=hdep 7 rfl
   clear hdep
   simp only [h7] at hK
   go_simp
   exact hK _ _ rfl hW (fun _ _ h=>h)
  ·
   intro x W
   refine ⟨fun _ hW hdep K hK=>?_,(fun h=>absurd h (by decide)),(fun h=>absurd h (by decide))⟩
   have h8:x 8=_:=hdep 8 rfl
   have c:=(HO.out.later (z7 HB2.out hW)).c2
   clear hdep
   simp only [h8] at hK
   go_simp
   exact hK _ _ rfl hW (fun _ _ h=>h)
  ·
   intro x W
   refine ⟨fun _ hW hdep K hK=>?_,(fun h=>absurd h (by decide)),(fun h=>absurd h (by decide))⟩
   clear hdep
   go_simp
   exact hK _ _ rfl hW (fun _ _ h=>h)
  ·
   intro x W
   refine ⟨fun _ hW hdep K hK=>?_,(fun h=>absurd h (by decide)),(fun h=>absurd h (by decide))⟩
   have h9:x 9=_:=hdep 9 rfl
   have h10:x 10=_:=hdep 10 rfl
   have hc:=HGO.out W (z7 HB2.out hW)
   clear hdep
   simp only [h9,h10] at hK
   go_simp
   refine hc.mono ?_
   rintro e W' ⟨v,rfl,hr,hb⟩
   obtain ⟨ga,gc,rfl⟩:=xL hr
   exact hK _ _ ⟨ga,gc,rfl,zy hr (z7 HB2.out hW).size⟩ (z7 hW hb) (fun j u h=>YTl11_keep hb j u h)
  ·
   intro x W
   refine ⟨fun _ hW hdep K hK=>?_,(fun h=>absurd h (by decide)),(fun h=>absurd h (by decide))⟩
   have h0:x 0=_:=hdep 0 rfl
   have h2:x 2=_:=hdep 2 rfl
   have h3:x 3=_:=hdep 3 rfl
   have h5:x 5=_:=hdep 5 rfl
   have hA:∃ ga gc,x 11=.slice ga gs.length gc∧W.ownsRow w.heap.size 9 1 (.slice ga gs.length gc) gs.length (gs.map encStr):=hdep 11 rfl
   obtain ⟨ga,gc,h11,hr⟩:=hA
   simp only [h11] at hK
   clear hdep
   simp only [h0,h2,h3,h5] at hK
   go_simp
   exact hK _ _ ⟨ga,gc,rfl,hr⟩ hW (fun _ _ h=>h)
  ·
   intro x W
   refine ⟨(fun h=>absurd h (by decide)),fun _ hW hdep K hK=>?_,(fun h=>absurd h (by decide))⟩
   have hA:∃ ga gc,x 12=.agg #[.string n,.string ss,.string mm,.bool dd,.slice ga gs.length gc]∧W.ownsRow w.heap.size 9 1 (.slice ga gs.length gc) gs.length (gs.map encStr):=hdep 12 rfl
   obtain ⟨ga,gc,h12,hr⟩:=hA
   simp only [h12] at hK
   have hz:un W w.heap.size (.string ⟨#[]⟩) (.string ⟨#[]⟩) (.string ⟨#[]⟩) (.bool false) (.slice none 0 0):=(hW.block _ HLT2.out).trans HZ.out
   have f1:=hz.free
   have q0:=HSO.out W hW ga gc hr
   have r0:_=some (.string ⟨#[]⟩:Value):=hz.at_ 0
   have r1:_=some (.string ⟨#[]⟩:Value):=hz.at_ 1
   have r2:_=some (.string ⟨#[]⟩:Value):=hz.at_ 2
   have r3:_=some (.bool false:Value):=hz.at_ 3
   have r4:_=some (.slice none 0 0:Value):=hz.at_ 4
   clear hz
   clear hdep
   go_simp
   exact hK undef _ trivial q0
 case fin =>
  intro x W hW _
  obtain ⟨ga,gc,hz,hr,hb⟩:=hW
  have HR:=za hr
  have HBB:=za hb
  have q0:_=some (.string n:Value):=hz.at_ 0
  have q1:_=some (.string ss:Value):=hz.at_ 1
  have q2:_=some (.string mm:Value):=hz.at_ 2
  have q3:_=some (.bool dd:Value):=hz.at_ 3
  have q4:_=some (.slice ga gs.length gc:Value):=hz.at_ 4
  clear hr hb hz HSO HZ HA HB2 HGO HO HLT HLT2
  go_wp2_with fail
  refine bodyPost_ret (v:=.agg #[.string n,.string ss,.string mm,.bool dd,.slice ga gs.length gc]) ?_ rfl ⟨_,rfl,⟨ga,gc,rfl,HR.out⟩,HBB.out⟩
  simp [results,Tryz.results370,go_sem,q0,q1,q2,q3,q4]
end

set_option maxRecDepth 100000 in
theorem Fd (w:World):Calls Tryz.prog 151 #[] w fun e w'=>∃ D P M G,e=.returned (.pointer (some ⟨D,0,none⟩))∧zt w w' D P M G [] [] []:=by
 have HM:Hid (∀ W,Calls Tryz.prog 193 #[] W fun e w'=>e=.returned (.pointer (some ⟨W.heap.size,0,none⟩))∧w'=W.alloc (.cells #[.map none,.map none] 290)):=fun W=>new9_calls W
 have HG:Hid (∀ W,Calls Tryz.prog 194 #[] W fun e w'=>e=.returned (.pointer (some ⟨W.heap.size,0,none⟩))∧w'=W.alloc (.cells #[.map none] 278)):=fun W=>fH W
 have hmm:=@run_makeMap Tryz.prog
 have a1:=accs11_made w
 have hb1:=zb (Below.refl w.heap.size w) (.map #[] 0)
 have s1:(w.alloc (.map #[] 0)).heap.size=w.heap.size+1:=by simp
 generalize hw1:w.alloc (.map #[] 0)=w1 at *
 have a2:=idx9_new w1
 have hb2:=zb (Below.refl w1.heap.size w1) (.cells #[.map none,.map none] 290)
 have s2:(w1.alloc (.cells #[.map none,.map none] 290)).heap.size=w1.heap.size+1:=by simp
 generalize hw2:w1.alloc (.cells #[.map none,.map none] 290)=w2 at *
 have a3:=V2 w2
 have hb3:=zb (Below.refl w2.heap.size w2) (.cells #[.map none] 278)
 have s3:(w2.alloc (.cells #[.map none] 278)).heap.size=w2.heap.size+1:=by simp
 generalize hw3:w2.alloc (.cells #[.map none] 278)=w3 at *
 have hb4:=zb (Below.refl w3.heap.size w3) (.cells #[.map (some w.heap.size),.pointer (some ⟨w1.heap.size,0,none⟩),.pointer (some ⟨w2.heap.size,0,none⟩)] 240)
 have a4:=heap_alloc_new w3 (.cells #[.map (some w.heap.size),.pointer (some ⟨w1.heap.size,0,none⟩),.pointer (some ⟨w2.heap.size,0,none⟩)] 240)
 have HF:Hid (zt w (w3.alloc (.cells #[.map (some w.heap.size),.pointer (some ⟨w1.heap.size,0,none⟩),.pointer (some ⟨w2.heap.size,0,none⟩)] 240)) w3.heap.size w.heap.size w1.heap.size w2.heap.size [] [] []):=by
  have hb24:=z7 (z7 hb2 hb3) hb4
  have hb34:=z7 hb3 hb4
  refine ⟨none,none,[],none,[],⟨a4,a1.kept (hb24.block _ (by omega)),a2.later hb34,a3.later hb4,?_,?_,?_⟩,rfl,fun i hi=>⟨?_,id⟩,z7 (z7 (z7 hb1 hb2) hb3) hb4,Nat.zero_le _,fun _ h=>h.elim⟩
  ·
   rintro i (rfl | h | h)
   ·
    omega
   ·
    cases h
   ·
    cases h
  ·
   rintro i (rfl | h | ⟨x,h,_⟩)
   ·
    omega
   ·
    cases h
   ·
    cases h
  ·
   rintro i (rfl | h | h) (h' | h' | ⟨x,h',_⟩)
   ·
    omega
   all_goals first | cases h | cases h'
  ·
   revert hi
   rintro (rfl | rfl | h | h)
   ·
    omega
   ·
    omega
   ·
    rcases h with rfl | h | h
    ·
     omega
    ·
     cases h
    ·
     cases h
   ·
    rcases h with rfl | h | ⟨x,h,_⟩
    ·
     omega
    ·
     cases h
    ·
     cases h
 clear a1 a2 a3 a4 hb1 hb2 hb3 hb4 s1 s2 s3
 go_enter Tryz.func151,Tryz.ntmps151
 go_wp2_with fail
 with_reducible refine (HM.out _).mono ?_
 rintro e u2 ⟨rfl,hu2⟩
 go_wp2_with fail
 with_reducible refine (HG.out _).mono ?_
 rintro e u3 ⟨rfl,hu3⟩
 try rw [hw1] at hu2
 try rw [hw2] at hu2
 try subst hu2
 try rw [hw3] at hu3
 subst hu3
 clear HM HG hmm hw1 hw2 hw3
 go_wp2
 go_ret
 exact ⟨_,_,_,_,rfl,HF.out⟩
end Go.Proofs.YteegkoicalbkbaaGreatDoor
namespace Go.Proofs.YteegkoicalbkbaaGreatDoor
open Go.RowKit Go.Maps Go.Sort Go.Shelf
set_option linter.unusedVariables false

def YW (w:World) (v:Value) (ls:List (List UInt8)):Prop:=∃ A c,v=.slice A ls.length c∧∀ j (h:j<ls.length),∃ g,A=some ⟨g,0,none⟩∧w.cell? ⟨g,j,none⟩=some (.string (yf ls[j]))
theorem YW.later {w w':World} {v:Value} {ls:List (List UInt8)} (h:YW w v ls) (hb:Below w.heap.size w w'):YW w' v ls:=by
 obtain ⟨A,c,e,hc⟩:=h
 exact ⟨A,c,e,fun j hj=>by obtain ⟨g,e,h⟩:=hc j hj; exact ⟨g,e,(hb.cell (p:=⟨g,j,none⟩) (World.block_lt_of_cell? w _ h)).trans h⟩⟩
theorem YW.nil (w:World):YW w (.slice none 0 0) []:=⟨none,0,rfl,fun _ h=>absurd h (Nat.not_lt_zero _)⟩
theorem YW.of_own {w:World} {base:Nat} {e:TypeId} {v:Value} {ls:List (List UInt8)} (h:w.ownsRow base e 1 v ls.length (ls.map encStr)):YW w v ls:=by
 obtain ⟨A,c,rfl⟩:∃ A c,v=.slice A ls.length c:=by
  rcases h.2 with ⟨rfl,h0⟩ | ⟨g,cap,cur,rfl,_⟩
  ·
   exact ⟨none,0,by rw [h0]⟩
  ·
   exact ⟨_,_,rfl⟩
 refine ⟨A,c,rfl,fun j hj=>?_⟩
 rcases h.2 with ⟨_,h0⟩ | ⟨g,cap,cur,e1,_⟩
 ·
  omega
 ·
  injection e1 with e1
  subst e1
  refine ⟨g,rfl,?_⟩
  have:=h.cells (g:=g) rfl j (encStr ls[j]) (by simp [hj])
  rw [Addr.add_lit,Nat.zero_add] at this
  exact this

set_option maxRecDepth 100000 in
theorem Zi (C:Nat) (pre s:ByteArray) (w:World) (hc:w.cell? ⟨C,0,none⟩=some (.string pre)) :
  Calls Tryz.prog 322 #[.string s,.pointer (some ⟨C,0,none⟩)] w fun e w'=>e=.returned (.bool (!Lib.hasPrefix s.data.toList pre.data.toList))∧w'=w:=by
 have hnot:∀ (x:Bool) (w:World),(Op.unary .not (.bool x)).run Tryz.prog w=.ok (.bool (!x)) w:=fun _ _=>rfl
 have HC:=za (Tryz.strings_HasPrefix s pre w)
 generalize Lib.hasPrefix s.data.toList pre.data.toList=r at *
 go_enter Tryz.func322,Tryz.ntmps322
 go_wp2_with fail
 with_reducible refine HC.out.mono ?_
 rintro e w1 ⟨rfl,rfl⟩
 clear HC hc
 cases r <;> go_wp2 <;> go_ret <;> exact ⟨rfl,rfl⟩

set_option maxRecDepth 100000 in
theorem U2 (fv:Value) (c:Nat) (w:World) (hfv:∃ g lb,fv=.func (.func g) #[] lb):Calls Tryz.prog 324 #[.slice none 0 c,fv] w fun e w'=>e=.returned (.slice none 0 c)∧w'=w:=by
 obtain ⟨g,lb,rfl⟩:=hfv
 have HI:=za (Tryz.slices_IndexFunc_empty_f238 (α:=List UInt8) none c (.func (.func g) #[] lb) w)
 go_enter Tryz.func324,Tryz.ntmps324
 go_wp2_with (go_at_call 238; (with_reducible refine HI.out.mono ?_); rintro e w' ⟨rfl,rfl⟩)
 go_ret
 exact ⟨rfl,rfl⟩

def jK (ls:List (List UInt8)) (pre:List UInt8):List (List UInt8):=ls.filter fun x=>Lib.hasPrefix x pre

theorem FX (base C:Nat) (v:Value) (ls:List (List UInt8)) (pre:ByteArray) (w:World) (hc:w.cell? ⟨C,0,none⟩=some (.string pre)) (hC:C<base) (hbase:base≤w.heap.size) (hv:w.ownsRow base 9 1 v ls.length (ls.map encStr)) :
  Calls Tryz.prog 324 #[v,.func (.func 322) #[] #[.pointer (some ⟨C,0,none⟩)]] w fun e w'=>∃ v',e=.returned v'∧YW w' v' (jK ls pre.data.toList)∧Below base w w':=by
 rcases hv.2 with ⟨rfl,h0⟩ | ⟨gb,cap,cur,rfl,hbg,hgb,r1,r2,r3,r4⟩
 ·
  obtain rfl:ls=[]:=List.eq_nil_of_length_eq_zero h0
  exact (U2 _ 0 w ⟨_,_,rfl⟩).mono fun e w' ⟨he,hw⟩=>⟨_,he,YW.nil _,by rw [hw]; exact Below.refl _ _⟩
 ·
  have hH:Holds encStr w gb 0 ls.toArray:=holds_of_block hgb (by simpa using r4)
  have hgl:gb<w.heap.size:=(Array.getElem?_eq_some_iff.1 hgb).1
  have hpa:PredAt Tryz.prog 322 #[.pointer (some ⟨C,0,none⟩)] encStr (fun x=>!Lib.hasPrefix x pre.data.toList) w:=fun W x hb =>
   (Zi C pre ⟨x.toArray⟩ W ((hb.cell (p:=⟨C,0,none⟩) (by show C<_; omega)).trans hc)).mono fun e w' ⟨he,hw⟩=>⟨he,0,hw⟩
  have hpo:PredOver Tryz.prog 322 #[.pointer (some ⟨C,0,none⟩)] encStr (fun x=>!Lib.hasPrefix x pre.data.toList) gb 0 ls.toArray.size w:=fun n os dk x _ =>
   (Zi C pre ⟨x.toArray⟩ _ (by
    unfold sortWorld
    rw [cell?_grow _ _ _ (by show C<(putRow _ _ _ _ _).heap.size; rw [size_putRow]; show C<w.heap.size; omega),cell?_putRow_other _ _ gb 0 _ _ (Or.inl (by show C≠gb; omega))]
    exact hc)).mono fun e w' ⟨he,hw⟩=>⟨he,0,hw⟩
  have hm:maxLen=9223372036854775807:=rfl
  have hd:=Tryz.slices_DeleteFunc encStr (fun _=>rfl) (fun x=>!Lib.hasPrefix x pre.data.toList) _ _ (enters_of Tryz.func322 (by kernel_rfl) rfl) [] (fun w=>Q7 w) gb 0 cap ls.toArray w hpa hpo hH (by simp; omega) (by simpa using r1)
  have e1:(ls.toArray.toList.filter fun x=>!(fun x=>!Lib.hasPrefix x pre.data.toList) x)=jK ls pre.data.toList:=by simp [jK]
  rw [e1] at hd
  have hls:(jK ls pre.data.toList).length≤ls.length:=List.length_filter_le _ _
  generalize jK ls pre.data.toList=r at *
  refine (show Calls _ _ #[.slice (some ⟨gb,0,none⟩) ls.toArray.size cap,_] _ _ from hd.mono ?_)
  rintro e w' ⟨rfl,q,rfl⟩
  refine ⟨_,rfl,⟨_,_,rfl,fun j hj=>⟨gb,rfl,?_⟩⟩,?_⟩
  ·
   have:=cell?_putRow encStr (Sort.ahead w q) gb 0 ls.toArray (r++List.replicate (ls.toArray.size - r.length) []).toArray (holds_ahead _ _ _ _ _ _ hH) (by simp; omega) j (by simp; omega)
   rw [Nat.zero_add] at this
   rw [this,getElem!_pos _ j (by simp; omega)]
   simp [List.getElem_append_left hj,yf,encStr]
  ·
   have hg:=grownBy_sorted (w:=w) (g:=gb) (n:=q) (os:=#[]) (r++List.replicate (ls.toArray.size - r.length) []).toArray
   rw [grow_empty] at hg
   exact (Below.refl base w).grown hg hbase (fun k hk=>by cases hk; exact hbg)



def QM (N:List (List UInt8)) (pre:List UInt8):List (List UInt8):=if uM pre then jK N pre else []
section
variable {w0 w:World} {D P M G:Nat} {A:zu} {L:zl} {S:zo}
set_option maxRecDepth 100000 in
theorem QB (pre:ByteArray) (ho:zt w0 w D P M G A L S) (hri:zG A) (hf:A.length≤12) (hp:pre.size≤9223372036854775807) :
  Calls Tryz.prog 316 #[.pointer (some ⟨D,0,none⟩),.string pre] w fun e w'=>∃ v,e=.returned (.tuple #[v,.int .i64 (zi (uM pre.data.toList) 10)])∧YW w' v (QM (zc A) pre.data.toList)∧Below w.heap.size w w':=by
 have hmf:=mkf
 have bl:=zb (Below.refl w.heap.size w) (.cells #[.string pre] 9)
 have HP:=za (YJ pre (w.alloc (.cells #[.string pre] 9)) hp)
 have HX:Hid ((w.alloc (.cells #[.string pre] 9)).cell? ⟨w.heap.size,0,none⟩=some (.string pre)):=by show _=_; simp
 have HBL:=za bl
 have HNM:Hid (∀ W,Below (w.alloc (.cells #[.string pre] 9)).heap.size (w.alloc (.cells #[.string pre] 9)) W→Calls Tryz.prog 325 #[.pointer (some ⟨D,0,none⟩)] W (zX (zc A) W)):=fun W hb=>fp (ho.later (z7 bl hb)) hri hf
 have hlt:w.heap.size<(w.alloc (.cells #[.string pre] 9)).heap.size:=by simp
 clear ho bl hri hf
 generalize zc A=NN at *
 have HLY:Hid (uM pre.data.toList=true→QM NN pre.data.toList=jK NN pre.data.toList):=fun h=>by show _=_; unfold QM; rw [if_pos h]
 have HLN:Hid (uM pre.data.toList=false→QM NN pre.data.toList=[]):=fun h=>by show _=_; unfold QM; rw [if_neg (by rw [h]; decide)]
 generalize QM NN pre.data.toList=LL at *
 generalize uM pre.data.toList=bp at *
 go_enter Tryz.func316,Tryz.ntmps316
 cases bp with
 | false =>
  obtain rfl:=HLN.out rfl
  have HP0:Hid (Calls Tryz.prog 321 #[.string pre] (w.alloc (.cells #[.string pre] 9)) (yG 10 (w.alloc (.cells #[.string pre] 9)))):=HP.out
  clear HP
  go_wp2_with fail
  with_reducible refine HP0.out.mono ?_
  rintro e w2 ⟨rfl,hb⟩
  have HB2:=za (z7 HBL.out hb)
  clear hb HP0
  go_wp2
  go_ret2
  exact ⟨_,rfl,YW.nil _,HB2.out⟩
 | true =>
  obtain rfl:=HLY.out rfl
  have HP0:Hid (Calls Tryz.prog 321 #[.string pre] (w.alloc (.cells #[.string pre] 9)) (yG 0 (w.alloc (.cells #[.string pre] 9)))):=HP.out
  clear HP
  go_wp2_with fail
  generalize w.alloc (.cells #[.string pre] 9)=w1 at *
  generalize hC:w.heap.size=C at *
  with_reducible refine HP0.out.mono ?_
  rintro e w3 ⟨rfl,hb⟩
  have HB3:=za hb
  have HN:=za (HNM.out w3 hb)
  clear hb HP0 HNM
  go_wp2_with fail
  with_reducible refine HN.out.mono ?_
  rintro e w4 ⟨v,rfl,hrow,hb⟩
  obtain ⟨A4,c4,rfl,_⟩:=YW.of_own hrow
  have hd2:=FX w3.heap.size C _ NN pre w4 (((z7 HB3.out hb).cell (p:=⟨C,0,none⟩) hlt).trans HX.out) (Nat.lt_of_lt_of_le hlt HB3.out.size) hb.size hrow
  have HD2:=za hd2
  have HB34:=za hb
  clear hb hrow HN hd2
  go_wp2_with fail
  with_reducible refine HD2.out.mono ?_
  rintro e w5 ⟨v',rfl,hv',hb⟩
  have HV:=za hv'
  have HB5:=za (show Below w.heap.size w w5 by subst hC; exact z7 HBL.out (HB3.out.trans ((HB34.out.trans hb).mono (HB3.out.size))))
  obtain ⟨A',c',rfl,hvx⟩:=hv'
  clear hb HD2 hvx
  subst hC
  generalize hbl:List.length (jK NN pre.data.toList)=nb at *
  go_wp2
  go_ret2
  exact ⟨_,rfl,(show Hid _ from HV).out,HB5.out⟩
end
end Go.Proofs.YteegkoicalbkbaaGreatDoor
namespace Go.Proofs.YteegkoicalbkbaaGreatDoor
open Go.RowKit Go.Maps Go.Sort Go.Shelf

def vq:List Us→Int
 | []=>0
 | u::r=>if uQ 2 u=0 then vq r else uQ 2 u
def XB (l:List Us):Int:=xX [vq l,zi (yh (l.map (·.nm))) 9,zi (decide ((l.length:Int)≤12)) 7]

end Go.Proofs.YteegkoicalbkbaaGreatDoor
namespace Go.Proofs.YteegkoicalbkbaaGreatDoor
open Go.RowKit Go.Maps
set_option linter.unusedSectionVars false

def YRn11 (D M:Nat) (o n:ByteArray):Nat→Value→Prop
 | 2,v=>v=.pointer (some ⟨D,1,none⟩)
 | 3,v=>v=.pointer (some ⟨M,0,none⟩)
 | 4,v=>v=.string o
 | 5,v=>v=.string n
 | 6,v=>v=.string n
 | _,v=>v=.pointer (some ⟨D,0,none⟩)
def YRnW11 (D M:Nat) (o n:ByteArray) (j:Nat) (v:Value) (_:World):Prop:=YRn11 D M o n j v
section
variable [Fr11] {w0 w:World} {D P M G:Nat} {A:zu} {L:zl} {S:zo} {k:Nat}
set_option maxRecDepth 100000 in
theorem VF (o n:ByteArray) (ho:zt w0 w D P M G A L S) (hg:zn A L S k) (h9:k≤900) (hz:o.size≤9223372036854775807) (hn:n.size≤9223372036854775807) :
  Calls Tryz.prog 347 #[.pointer (some ⟨D,0,none⟩),.string o,.string n] w fun e w'=>e=.returned (.int .i64 (Za A o.data.toList n.data.toList))∧zE w0 w D P M G (rnA11 A o.data.toList n.data.toList) (rnL11 A L o.data.toList n.data.toList) (rnS11 A S o.data.toList n.data.toList) w':=by
 have HN:Hid (∀ W,Below w.heap.size w W→Calls Tryz.prog 159 #[.string o] W fun e w'=>e=.returned (.int .i64 (zi (zh o.data.toList) 10))∧Below W.heap.size W w'):=fun W hb=>zW o W hz
 have HH:Hid (∀ W,Below w.heap.size w W→Calls Tryz.prog 159 #[.string n] W fun e w'=>e=.returned (.int .i64 (zi (zh n.data.toList) 10))∧Below W.heap.size W w'):=fun W hb=>zW n W hn
 have HI:Hid (∀ W,Below w.heap.size w W→Calls Tryz.prog 319 #[.pointer (some ⟨D,0,none⟩),.string o] W fun e w'=>e=.returned (.int .i64 (zi (zz A o.data.toList) 8))∧Below W.heap.size W w'):=fun W hb=>yD o (ho.later hb) hz
 have HL:Hid (∀ W,Below w.heap.size w W→Calls Tryz.prog 318 #[.pointer (some ⟨D,0,none⟩),.string n] W fun e w'=>e=.returned (.int .i64 (zi (!zz A n.data.toList) 9))∧Below W.heap.size W w'):=fun W hb=>fq n (ho.later hb) hn
 have HFS:Hid (∀ W:World,Calls Tryz.prog 152 #[.slice (some ⟨W.heap.size,0,none⟩) 4 4] (W.alloc (.cells #[.int .i64 (zi (zh o.data.toList) 10),.int .i64 (zi (zh n.data.toList) 10),.int .i64 (zi (zz A o.data.toList) 8),.int .i64 (zi (!zz A n.data.toList) 9)] 54)) fun e w'=>e=.returned (.int .i64 (Za A o.data.toList n.data.toList))∧w'=W.alloc (.cells #[.int .i64 (zi (zh o.data.toList) 10),.int .i64 (zi (zh n.data.toList) 10),.int .i64 (zi (zz A o.data.toList) 8),.int .i64 (zi (!zz A n.data.toList) 9)] 54)):=fun W=>by
  have:=vU W [zi (zh o.data.toList) 10,zi (zh n.data.toList) 10,zi (zz A o.data.toList) 8,zi (!zz A n.data.toList) 9] 54 (by simp)
  rw [first11_rn] at this
  exact this
 have HO:=za ho
 have HPT:Hid (Za A o.data.toList n.data.toList=0→∀ W,Below w.heap.size w W→Calls Tryz.prog 201 #[.pointer (some ⟨D,0,none⟩),.string n,.agg #[.string (yf (qK A o.data.toList)),.bool (uj A o.data.toList)]] W fun e w'=>e=.returned (.tuple #[])∧zE w0 w D P M G (yR A n.data.toList (qK A o.data.toList,uj A o.data.toList)) L S w'):=fun e W hb=>by
  obtain ⟨h1,h2,h3,h4⟩:=Qm e
  have:=uY n (yf (qK A o.data.toList)) (uj A o.data.toList) (ho.later hb) (by have:=hg.few; omega) (vE h2) (by rw [xO]; exact fb (XZ hg h3))
  rw [zT] at this
  exact this.mono fun e w' ⟨he,hgo⟩=>⟨he,hgo.ahead hb⟩
 have HK:Hid (∀ W,Below w.heap.size w W→(Instr.lookup 236 (.map (some P)) (.string o) false).run Tryz.prog W=.ok (.agg #[.string (yf (qK A o.data.toList)),.bool (uj A o.data.toList)]) W):=fun W hb=>(ho.later hb).look1 o hz
 have HDR:Hid (∀ W ty A1,zt w0 W D P M G A1 L S→∃ w',(Builtin.delete_ #[236,9] ty #[.map (some P),.string o]).run Tryz.prog W=.ok (.tuple #[]) w'∧zE w0 W D P M G (xK A1 o.data.toList) L S w'):=fun W ty A1 h=>h.drop o hz ty
 have HMR:Hid (∀ W A1 L1 S1,zt w0 W D P M G A1 L1 S1→Calls Tryz.prog 362 #[.pointer (some ⟨M,0,none⟩),.string o,.string n] W fun e w'=>e=.returned (.int .i64 (reE9 L1 o.data.toList n.data.toList))∧zE w0 W D P M G A1 (reL9 L1 o.data.toList n.data.toList) S1 w'):=fun W A1 L1 S1 h=>h.mrename o n hz hn
 have HGR:Hid (∀ W A1 L1,zt w0 W D P M G A1 L1 S→Calls Tryz.prog 363 #[.pointer (some ⟨G,0,none⟩),.string o,.string n] W fun e w'=>e=.returned (.int .i64 (Zd S o.data.toList n.data.toList))∧zE w0 W D P M G A1 L1 (ZQ S o.data.toList n.data.toList) w'):=fun W A1 L1 h=>h.grename hg.grp h9 o n hz hn
 have HC:Hid (Za A o.data.toList n.data.toList=0→∀ W,Calls Tryz.prog 191 #[.string n] W fun e w'=>e=.returned (.string n)∧Below W.heap.size W w'):=fun e W=>yy n W (vE (Qm e).2.1)
 clear ho hg hz hn
 unfold rnA11 rnL11 rnS11
 generalize Za A o.data.toList n.data.toList=r at *
 generalize zi (zh o.data.toList) 10=e0 at *
 generalize zi (zh n.data.toList) 10=e1 at *
 generalize zi (zz A o.data.toList) 8=e2 at *
 generalize zi (!zz A n.data.toList) 9=e3 at *
 by_cases h0:r=0
 ·
  subst h0
  rw [if_pos rfl,if_pos rfl,if_pos rfl]
  have HP2:=za (HPT.out rfl)
  have HC2:=za (HC.out rfl)
  clear HPT HC
  generalize yR A n.data.toList (qK A o.data.toList,uj A o.data.toList)=A1 at *
  generalize yf (qK A o.data.toList)=ss at *
  generalize uj A o.data.toList=dd at *
  generalize hrr:reE9 L o.data.toList n.data.toList=rr at *
  generalize hrl:reL9 L o.data.toList n.data.toList=L2 at *
  have HRR:=za hrr
  have HRL:=za hrl
  clear hrr hrl
  generalize Zd S o.data.toList n.data.toList=r10 at *
  generalize ZQ S o.data.toList n.data.toList=S2 at *
  go_enter Tryz.func347,Tryz.ntmps347
  have HB0:Hid (Below w.heap.size w w):=Below.refl _ _
  go_wp2_with fail
  with_reducible refine (HN.out w HB0.out).mono ?_
  rintro e u1 ⟨rfl,hb⟩
  have HB1:=za (z7 HB0.out hb)
  clear hb
  go_wp2_with fail
  with_reducible refine (HH.out u1 HB1.out).mono ?_
  rintro e u2 ⟨rfl,hb⟩
  have HB2:=za (z7 HB1.out hb)
  clear hb
  go_wp2_with fail
  with_reducible refine (HI.out u2 HB2.out).mono ?_
  rintro e u3 ⟨rfl,hb⟩
  have HB3:=za (z7 HB2.out hb)
  clear hb
  go_wp2_with fail
  with_reducible refine (HL.out u3 HB3.out).mono ?_
  rintro e u4 ⟨rfl,hb⟩
  have HB4:=za (z7 HB3.out hb)
  clear hb
  go_wp2_with fail
  with_reducible refine (HFS.out _).mono ?_
  rintro e ub ⟨rfl,hub⟩
  have HB:Hid (Below w.heap.size w ub):=by
   show Below _ _ _
   rw [hub]; exact zb HB4.out _
  clear hub HFS HB0 HB1 HB2 HB3 HB4 HN HH HI HL
  have c0:=(HO.out.later HB.out).c0
  have hk:=HK.out _ HB.out
  clear HK
  go_wp2_with fail
  with_reducible refine (HP2.out _ HB.out).mono ?_
  rintro e w5 ⟨rfl,hg5⟩
  have c0':=hg5.1.c0
  obtain ⟨w6,hrun,hgo⟩:=HDR.out w5 0 _ hg5.1
  have HG6:=za (hg5.next hgo)
  clear hg5 hgo HP2 HB hk c0 HDR
  go_wp2_with fail
  refine zB (by kernel_rfl) 7 (fun W=>Below w6.heap.size w6 W) (fun W=>zE w0 w D P M G (xK A1 o.data.toList) L2 S W) (YRnW11 D M o n) (fun v=>v=.int .i64 rr) ?F ?hF (by kernel_rfl) (by kernel_rfl) (by kernel_rfl) (by kernel_rfl) (by decide) (zQ (Below.refl _ _)) ?step ?fin
  case hF =>
   intro x
   simp only [List.map_cons,List.map_nil,xU,Act.put,List.setIfInBounds_toArray,List.set_cons_zero,List.set_cons_succ,Nat.zero_add,Nat.reduceAdd]
   exact rfl
  case step =>
   refine ⟨?_,?_,?_,?_,?_,?_,?_,?_,trivial⟩
   ·
    intro x W
    refine ⟨fun _ hW hdep K hK=>?_,(fun h=>absurd h (by decide)),(fun h=>absurd h (by decide))⟩
    clear hdep
    go_simp
    exact hK _ _ rfl hW (fun _ _ h=>h)
   ·
    intro x W
    refine ⟨fun _ hW hdep K hK=>?_,(fun h=>absurd h (by decide)),(fun h=>absurd h (by decide))⟩
    have h0:x 0=_:=hdep 0 rfl
    clear hdep
    simp only [h0] at hK
    go_simp
    exact hK _ _ rfl hW (fun _ _ h=>h)
   ·
    intro x W
    refine ⟨fun _ hW hdep K hK=>?_,(fun h=>absurd h (by decide)),(fun h=>absurd h (by decide))⟩
    have h1:x 1=_:=hdep 1 rfl
    clear hdep
    simp only [h1] at hK
    go_simp
    exact hK _ _ rfl hW (fun _ _ h=>h)
   ·
    intro x W
    refine ⟨fun _ hW hdep K hK=>?_,(fun h=>absurd h (by decide)),(fun h=>absurd h (by decide))⟩
    have h2:x 2=_:=hdep 2 rfl
    have c:=(HG6.out.1.later hW).c1
    clear hdep
    simp only [h2] at hK
    go_simp
    exact hK _ _ rfl hW (fun _ _ h=>h)
   ·
    intro x W
    refine ⟨fun _ hW hdep K hK=>?_,(fun h=>absurd h (by decide)),(fun h=>absurd h (by decide))⟩
    clear hdep
    go_simp
    exact hK _ _ rfl hW (fun _ _ h=>h)
   ·
    intro x W
    refine ⟨fun _ hW hdep K hK=>?_,(fun h=>absurd h (by decide)),(fun h=>absurd h (by decide))⟩
    clear hdep
    go_simp
    exact hK _ _ rfl hW (fun _ _ h=>h)
   ·
    intro x W
    refine ⟨fun _ hW hdep K hK=>?_,(fun h=>absurd h (by decide)),(fun h=>absurd h (by decide))⟩
    have h5:x 5=_:=hdep 5 rfl
    have hc:=HC2.out W
    clear hdep
    simp only [h5] at hK
    go_simp
    refine hc.mono ?_
    rintro e W' ⟨rfl,hb⟩
    exact hK _ _ rfl (z7 hW hb) (fun _ _ h=>h)
   ·
    intro x W
    refine ⟨(fun h=>absurd h (by decide)),fun _ hW hdep K hK=>?_,(fun h=>absurd h (by decide))⟩
    have h3:x 3=_:=hdep 3 rfl
    have h4:x 4=_:=hdep 4 rfl
    have h6:x 6=_:=hdep 6 rfl
    have hc:=HMR.out W _ _ _ (HG6.out.1.later hW)
    clear hdep
    simp only [h3,h4,h6] at hK
    go_simp
    refine hc.mono ?_
    rintro e W' ⟨rfl,hg⟩
    rw [HRL.out] at hg
    exact hK _ _ (by rw [HRR.out]) ⟨hg.1,HG6.out.2.trans ((yF.of_below hW).trans hg.2)⟩
  case fin =>
   intro x W hW hZ
   have HF:=za hW
   have c2:=hW.1.c2
   have HGR1:=za (HGR.out W _ _ hW.1)
   clear hW hZ HG6 HMR HGR HC2 HO HRR HRL c0' hrun
   go_wp2_with fail
   with_reducible refine HGR1.out.mono ?_
   rintro e w8 ⟨rfl,hg⟩
   have HFF:=za (HF.out.next hg)
   clear hg HGR1 HF c2
   go_wp2
   go_ret
   exact ⟨rfl,HFF.out⟩
 ·
  rw [if_neg h0,if_neg h0,if_neg h0]
  clear HPT HC HK HDR HMR HGR
  have q1:(r == 0)=false:=by simpa using h0
  have q2:¬ r=0:=h0
  go_enter Tryz.func347,Tryz.ntmps347
  have HB0:Hid (Below w.heap.size w w):=Below.refl _ _
  go_wp2_with fail
  with_reducible refine (HN.out w HB0.out).mono ?_
  rintro e u1 ⟨rfl,hb⟩
  have HB1:=za (z7 HB0.out hb)
  clear hb
  go_wp2_with fail
  with_reducible refine (HH.out u1 HB1.out).mono ?_
  rintro e u2 ⟨rfl,hb⟩
  have HB2:=za (z7 HB1.out hb)
  clear hb
  go_wp2_with fail
  with_reducible refine (HI.out u2 HB2.out).mono ?_
  rintro e u3 ⟨rfl,hb⟩
  have HB3:=za (z7 HB2.out hb)
  clear hb
  go_wp2_with fail
  with_reducible refine (HL.out u3 HB3.out).mono ?_
  rintro e u4 ⟨rfl,hb⟩
  have HB4:=za (z7 HB3.out hb)
  clear hb
  go_wp2_with fail
  with_reducible refine (HFS.out _).mono ?_
  rintro e ub ⟨rfl,hub⟩
  have HB:Hid (Below w.heap.size w ub):=by
   show Below _ _ _
   rw [hub]; exact zb HB4.out _
  clear hub HFS HB0 HB1 HB2 HB3 HB4 HN HH HI HL
  go_wp2
  go_ret
  exact ⟨rfl,HO.out.still HB.out⟩

def Look11 (A:zu) (L:zl) (S:zo) (n:ByteArray) (w W:World) (v:Value):Prop :=
 (xY A n.data.toList=0→ZF A L S n w W v)∧(xY A n.data.toList≠0→v=.agg #[.string ⟨#[]⟩,.string ⟨#[]⟩,.string ⟨#[]⟩,.bool false,.slice none 0 0])
theorem ZF.low {w w1 W:World} {n:ByteArray} {v:Value} (h:ZF A L S n w1 W v) (hb:Below w.heap.size w w1):ZF A L S n w W v:=by
 obtain ⟨ga,gc,e,hr⟩:=h
 exact ⟨ga,gc,e,zy hr hb.size⟩
set_option maxRecDepth 100000 in
theorem VT (n:ByteArray) (ho:zt w0 w D P M G A L S) (hk:zD S k) (hn:n.size≤9223372036854775807) :
  Calls Tryz.prog 355 #[.pointer (some ⟨D,0,none⟩),.string n] w fun e w'=>∃ v,e=.returned (.tuple #[v,.int .i64 (xY A n.data.toList)])∧Look11 A L S n w w' v∧Below w.heap.size w w':=by
 have hzu:=zerou11
 have HN:Hid (∀ W,Below w.heap.size w W→Calls Tryz.prog 159 #[.string n] W fun e w'=>e=.returned (.int .i64 (zi (zh n.data.toList) 10))∧Below W.heap.size W w'):=fun W hb=>zW n W hn
 have HI:Hid (∀ W,Below w.heap.size w W→Calls Tryz.prog 319 #[.pointer (some ⟨D,0,none⟩),.string n] W fun e w'=>e=.returned (.int .i64 (zi (zz A n.data.toList) 8))∧Below W.heap.size W w'):=fun W hb=>yD n (ho.later hb) hn
 have HFS:Hid (∀ W:World,Calls Tryz.prog 152 #[.slice (some ⟨W.heap.size,0,none⟩) 2 2] (W.alloc (.cells #[.int .i64 (zi (zh n.data.toList) 10),.int .i64 (zi (zz A n.data.toList) 8)] 54)) fun e w'=>e=.returned (.int .i64 (xY A n.data.toList))∧w'=W.alloc (.cells #[.int .i64 (zi (zh n.data.toList) 10),.int .i64 (zi (zz A n.data.toList) 8)] 54)):=fun W=>by
  have:=vU W [zi (zh n.data.toList) 10,zi (zz A n.data.toList) 8] 54 (by simp)
  rw [UP] at this
  exact this
 have HT:Hid (∀ W,Below w.heap.size w W→Calls Tryz.prog 370 #[.pointer (some ⟨D,0,none⟩),.string n] W fun e w'=>∃ v,e=.returned v∧ZF A L S n w w' v∧Below W.heap.size W w'):=fun W hb =>
  (Yr n (ho.later hb) hk hn).mono fun e w' ⟨v,he,ht,hb'⟩=>⟨v,he,ht.low hb,hb'⟩
 clear ho hk hn
 obtain ⟨r,hr⟩:∃ r,r=xY A n.data.toList:=⟨_,rfl⟩
 rw [← hr] at HFS ⊢
 have HRD:=za hr
 clear hr
 generalize zi (zh n.data.toList) 10=e0 at *
 generalize zi (zz A n.data.toList) 8=e1 at *
 have hz1:un (w.alloc (.cells #[.string ⟨#[]⟩,.string ⟨#[]⟩,.string ⟨#[]⟩,.bool false,.slice none 0 0] 192)) w.heap.size (.string ⟨#[]⟩) (.string ⟨#[]⟩) (.string ⟨#[]⟩) (.bool false) (.slice none 0 0):=heap_alloc_new w _
 have HZ:=za hz1
 have HB0:Hid (Below w.heap.size w (w.alloc (.cells #[.string ⟨#[]⟩,.string ⟨#[]⟩,.string ⟨#[]⟩,.bool false,.slice none 0 0] 192))):=zb (Below.refl _ _) _
 clear hz1
 go_enter Tryz.func355,Tryz.ntmps355
 go_wp2_with fail
 with_reducible refine (HN.out _ HB0.out).mono ?_
 rintro e u1 ⟨rfl,hb⟩
 have HZ1:=za (show un u1 _ _ _ _ _ _ from (hb.block w.heap.size (by simp)).trans HZ.out)
 have HB1:=za (z7 HB0.out hb)
 have HL1:Hid (w.heap.size<u1.heap.size):=by have:=hb.size; show _<_; simp at this; omega
 clear hb HZ HB0 HN
 go_wp2_with fail
 with_reducible refine (HI.out _ HB1.out).mono ?_
 rintro e u2 ⟨rfl,hb⟩
 have HZ2:=za (show un u2 _ _ _ _ _ _ from (hb.block w.heap.size HL1.out).trans HZ1.out)
 have HB2:=za (z7 HB1.out hb)
 have HL2:Hid (w.heap.size<u2.heap.size):=by have:=hb.size; have:=HL1.out; show _<_; omega
 clear hb HZ1 HB1 HI HL1
 go_wp2_with fail
 with_reducible refine (HFS.out _).mono ?_
 rintro e ub ⟨rfl,hub⟩
 have HB:Hid (Below w.heap.size w ub):=by
  show Below _ _ _
  rw [hub]; exact zb HB2.out _
 have HZ3:Hid (un ub w.heap.size (.string ⟨#[]⟩) (.string ⟨#[]⟩) (.string ⟨#[]⟩) (.bool false) (.slice none 0 0)):=by
  show un _ _ _ _ _ _ _
  rw [hub]; exact (Below.heap_alloc _ _ _ HL2.out).trans HZ2.out
 have HL3:Hid (w.heap.size<ub.heap.size):=by
  show _<_
  rw [hub]; have:=HL2.out; simp; omega
 clear hub HFS HB2 HZ2 HL2
 have SET:Hid (∀ W,Below w.heap.size w W→un W w.heap.size (.string ⟨#[]⟩) (.string ⟨#[]⟩) (.string ⟨#[]⟩) (.bool false) (.slice none 0 0)→∀ a b c d e,un (set5 W w.heap.size a b c d e) w.heap.size a b c d e∧Below w.heap.size w (set5 W w.heap.size a b c d e)∧∀ v xs m,W.ownsRow w.heap.size 9 1 v m xs→(set5 W w.heap.size a b c d e).ownsRow w.heap.size 9 1 v m xs):=fun W hbw hz a b c d e=>by
  have ht:zg (fun i=>i=w.heap.size) W (set5 W w.heap.size a b c d e):=Up (zg.refl (fun i=>i=w.heap.size) W) w.heap.size (fun _=>rfl) _ _ _ _ _
  refine ⟨hz.set5 _ _ _ _ _,hbw.trans (ht.below_at hbw.size (fun i e=>by omega)),fun v xs m ho=>⟨ho.1,?_⟩⟩
  rcases ho.2 with hn | ⟨g,cap,cur,e1,h0,hg,hr⟩
  ·
   exact .inl hn
  ·
   have hne:g≠w.heap.size:=fun e=>by
    subst e
    rw [show W.heap[w.heap.size]? = _ from hz] at hg
    injection hg with hg
    injection hg with _ h
    exact absurd h (by decide)
   exact .inr ⟨g,cap,cur,e1,h0,(ht.block g (Array.getElem?_eq_some_iff.1 hg).1 hne).trans hg,hr⟩
 by_cases h0:r=0
 ·
  subst h0
  go_wp2_with fail
  with_reducible refine (HT.out _ HB.out).mono ?_
  rintro e w4 ⟨v,rfl,ht,hb⟩
  obtain ⟨ga,gc,rfl,hr⟩:=ht
  have hz:un w4 w.heap.size (.string ⟨#[]⟩) (.string ⟨#[]⟩) (.string ⟨#[]⟩) (.bool false) (.slice none 0 0):=(hb.block w.heap.size HL3.out).trans HZ3.out
  have hbw:=z7 HB.out hb
  obtain ⟨s1,s2,s3⟩:=SET.out w4 hbw hz (.string n) (.string (yf (qK A n.data.toList))) (.string (yf (yM L n.data.toList))) (.bool (uj A n.data.toList)) (.slice ga (xc S n.data.toList).length gc)
  have HR:=za (s3 _ _ _ hr)
  have HBB:=za s2
  have HT2:Hid (ZF A L S n w (set5 w4 w.heap.size (.string n) (.string (yf (qK A n.data.toList))) (.string (yf (yM L n.data.toList))) (.bool (uj A n.data.toList)) (.slice ga (xc S n.data.toList).length gc)) (.agg #[.string n,.string (yf (qK A n.data.toList)),.string (yf (yM L n.data.toList)),.bool (uj A n.data.toList),.slice ga (xc S n.data.toList).length gc])):=⟨ga,gc,rfl,HR.out⟩
  have HT3:=za (show Look11 A L S n w _ _ from ⟨fun _=>HT2.out,fun h=>absurd HRD.out.symm h⟩)
  clear HT2 HR SET HT HZ3 HL3 hb hr hbw s2 s3
  generalize yf (qK A n.data.toList)=ss at *
  generalize uj A n.data.toList=dd at *
  generalize yf (yM L n.data.toList)=mm at *
  generalize (xc S n.data.toList).length=gl at *
  have f1:=hz.free
  have q0:_=some (.string n:Value):=s1.at_ 0
  have q1:_=some (.string ss:Value):=s1.at_ 1
  have q2:_=some (.string mm:Value):=s1.at_ 2
  have q3:_=some (.bool dd:Value):=s1.at_ 3
  have q4:_=some (.slice ga gl gc:Value):=s1.at_ 4
  have r0:_=some (.string ⟨#[]⟩:Value):=hz.at_ 0
  have r1:_=some (.string ⟨#[]⟩:Value):=hz.at_ 1
  have r2:_=some (.string ⟨#[]⟩:Value):=hz.at_ 2
  have r3:_=some (.bool false:Value):=hz.at_ 3
  have r4:_=some (.slice none 0 0:Value):=hz.at_ 4
  clear hz s1
  unfold set5 at q0 q1 q2 q3 q4 HT3 HBB
  go_wp2
  refine bodyPost_ret (v:=.tuple #[.agg #[.string n,.string ss,.string mm,.bool dd,.slice ga gl gc],.int .i64 0]) ?_ rfl ⟨_,rfl,HT3.out,HBB.out⟩
  simp [results,Tryz.results355,go_sem,q0,q1,q2,q3,q4]
 ·
  have q1:(r == 0)=false:=by simpa using h0
  have q2:(r != 0)=true:=by simpa using h0
  obtain ⟨s1,s2,_⟩:=SET.out ub HB.out HZ3.out (.string ⟨#[]⟩) (.string ⟨#[]⟩) (.string ⟨#[]⟩) (.bool false) (.slice none 0 0)
  have HBB:=za s2
  have hz:=HZ3.out
  clear SET HT HZ3 HL3 s2 HB
  have f1:=hz.free
  have p0:_=some (.string ⟨#[]⟩:Value):=s1.at_ 0
  have p1:_=some (.string ⟨#[]⟩:Value):=s1.at_ 1
  have p2:_=some (.string ⟨#[]⟩:Value):=s1.at_ 2
  have p3:_=some (.bool false:Value):=s1.at_ 3
  have p4:_=some (.slice none 0 0:Value):=s1.at_ 4
  have r0:_=some (.string ⟨#[]⟩:Value):=hz.at_ 0
  have r1:_=some (.string ⟨#[]⟩:Value):=hz.at_ 1
  have r2:_=some (.string ⟨#[]⟩:Value):=hz.at_ 2
  have r3:_=some (.bool false:Value):=hz.at_ 3
  have r4:_=some (.slice none 0 0:Value):=hz.at_ 4
  clear hz s1
  unfold set5 at p0 p1 p2 p3 p4 HBB
  go_wp2
  refine bodyPost_ret (v:=.tuple #[.agg #[.string ⟨#[]⟩,.string ⟨#[]⟩,.string ⟨#[]⟩,.bool false,.slice none 0 0],.int .i64 r]) ?_ rfl ⟨_,rfl,⟨fun h=>absurd (HRD.out.trans h) h0,fun _=>rfl⟩,HBB.out⟩
  simp [results,Tryz.results355,go_sem,p0,p1,p2,p3,p4]
end
end Go.Proofs.YteegkoicalbkbaaGreatDoor
namespace Go.Proofs.YteegkoicalbkbaaGreatDoor
open Go.RowKit Go.Maps Go.Sort Go.Shelf

structure W11 where
 hs:ByteArray
 ml:ByteArray
 dis:Bool
 ga:Option Addr
 gs:List (List UInt8)
 gc:Nat
def W11.u (x:W11):U11:=⟨x.hs.data.toList,x.ml.data.toList,x.dis,x.gs⟩
def FY (q:List UInt8×W11):List Value:=[.string (yf q.1),.string q.2.hs,.string q.2.ml,.bool q.2.dis,.slice q.2.ga q.2.gs.length q.2.gc]
theorem cu11_at (L:yT W11) (j i:Nat) (hj:j<L.length) (hi:i<5):(L.flatMap FY)[j * 5+i]? = (FY L[j])[i]? := by
 induction L generalizing j with
 | nil=>exact absurd hj (Nat.not_lt_zero _)
 | cons q L ih =>
  rw [List.flatMap_cons]
  cases j with
  | zero =>
   rw [List.getElem?_append_left (by simp [FY]; omega)]
   simp
  | succ j =>
   rw [List.getElem?_append_right (by simp [FY]; omega)]
   have:=ih j (by simpa using hj)
   rw [show (j+1) * 5+i - (FY q).length=j * 5+i by simp [FY]; omega,this]
   simp
theorem infoUser11:(Tryz.prog.info? 192).map (fun i=>(i.zero,i.size,i.bytes))=some (some (.agg #[.string ⟨#[]⟩,.string ⟨#[]⟩,.string ⟨#[]⟩,.bool false,.slice none 0 0]),5,80):=by kernel_rfl

def YV (w:World) (v:Value) (L:yT W11):Prop:=∃ A c,v=.slice A L.length c∧∀ j (h:j<L.length),∃ g,A=some ⟨g,0,none⟩∧∀ i u,(FY L[j])[i]? = some u→w.cell? ⟨g,j * 5+i,none⟩=some u
theorem YV.later {w w':World} {v:Value} {L:yT W11} (h:YV w v L) (hb:Below w.heap.size w w'):YV w' v L:=by
 obtain ⟨A,c,e,hc⟩:=h
 exact ⟨A,c,e,fun j hj=>by obtain ⟨g,e,h⟩:=hc j hj; exact ⟨g,e,fun i u hu=>(hb.cell (p:=⟨g,j * 5+i,none⟩) (World.block_lt_of_cell? w _ (h i u hu))).trans (h i u hu)⟩⟩
theorem YV.of_users {w:World} {base:Nat} {v:Value} {L:yT W11} (h:w.ownsRow base 192 5 v L.length (L.flatMap FY)):YV w v L:=by
 have hs:∃ A c,v=.slice A L.length c:=by
  rcases h.2 with ⟨rfl,h0⟩ | ⟨g,cap,cur,rfl,_⟩
  ·
   exact ⟨none,0,by rw [h0]⟩
  ·
   exact ⟨_,_,rfl⟩
 obtain ⟨A,c,rfl⟩:=hs
 refine ⟨A,c,rfl,fun j hj=>?_⟩
 rcases h.2 with ⟨_,h0⟩ | ⟨g,cap,cur,e1,_⟩
 ·
  omega
 ·
  injection e1 with e1
  subst e1
  refine ⟨g,rfl,fun i u hu=>?_⟩
  have hi:i<5:=(List.getElem?_eq_some_iff.1 hu).1
  have:=World.ownsRow.cells h (g:=g) rfl (j * 5+i) u (by rw [cu11_at L j i hj hi]; exact hu)
  rw [Addr.add_lit,Nat.zero_add] at this
  exact this



def Rw11 (L:yT W11) (w:World) (v:Value):Prop:=w.ownsRow 0 192 5 v L.length (L.flatMap FY)
theorem Rw11.us {L:yT W11} {w:World} {v:Value} (h:Rw11 L w v):YV w v L:=YV.of_users (base:=0) h
theorem qa {w w':World} {b:Nat} {e size n:Nat} {v:Value} {xs:List Value} (h:w.ownsRow b e size v n xs) (hk:yF w w') (h1:e≠240) (h2:e≠290) (h3:e≠278):w'.ownsRow b e size v n xs:=by
 refine ⟨h.1,?_⟩
 rcases h.2 with hn | ⟨g,cap,cur,e1,h0,hg,hr⟩
 ·
  exact .inl hn
 ·
  exact .inr ⟨g,cap,cur,e1,h0,hk g _ _ _ hg h1 h2 h3,hr⟩
theorem Rw11.keeps {L:yT W11} {w w':World} {v:Value} (h:Rw11 L w v) (hk:yF w w'):Rw11 L w' v:=qa h hk (by decide) (by decide) (by decide)
theorem Rw11.later {L:yT W11} {w w':World} {v:Value} (h:Rw11 L w v) (hb:Below w.heap.size w w'):Rw11 L w' v:=h.keeps (yF.of_below hb)
theorem Rw11.of_own {L:yT W11} {w:World} {b:Nat} {v:Value} (h:w.ownsRow b 192 5 v L.length (L.flatMap FY)):Rw11 L w v:=zy h (Nat.zero_le _)
theorem Rw11.nil (w:World):Rw11 [] w (.slice none 0 0):=World.ownsRow_nil _ _ _ _
theorem YV.at_ {w:World} {A:Option Addr} {c n:Nat} {L:yT W11} (h:YV w (.slice A n c) L) (k:Nat) (hk:k<L.length) :
  ∃ g,A=some ⟨g,0,none⟩∧w.cell? ⟨g,k * 5,none⟩=some (.string (yf L[k].1))∧w.cell? ⟨g,k * 5+1,none⟩=some (.string L[k].2.hs)∧w.cell? ⟨g,k * 5+2,none⟩=some (.string L[k].2.ml)∧w.cell? ⟨g,k * 5+3,none⟩=some (.bool L[k].2.dis)∧w.cell? ⟨g,k * 5+4,none⟩=some (.slice L[k].2.ga L[k].2.gs.length L[k].2.gc):=by
 obtain ⟨A',c',e,hc⟩:=h
 injection e with e1 e2 e3
 obtain ⟨g,eg,hcell⟩:=hc k hk
 exact ⟨g,by rw [e1,eg],hcell 0 _ rfl,hcell 1 _ rfl,hcell 2 _ rfl,hcell 3 _ rfl,hcell 4 _ rfl⟩
theorem YV.shape {w:World} {v:Value} {L:yT W11} (h:YV w v L):∃ A c,v=.slice A L.length c:=by
 obtain ⟨A,c,e,_⟩:=h
 exact ⟨A,c,e⟩




structure UsC11 (w:World) (B:Nat) (s:ByteArray) (x:W11) (n:Nat):Prop where
 lt:B<w.heap.size
 c0:w.cell? ⟨B,0,none⟩=some (.string s)
 c1:w.cell? ⟨B,1,none⟩=some (.string x.hs)
 c2:w.cell? ⟨B,2,none⟩=some (.string x.ml)
 c3:w.cell? ⟨B,3,none⟩=some (.bool x.dis)
 c4:w.cell? ⟨B,4,none⟩=some (.slice x.ga n x.gc)
theorem UsC11.of_heap {w W:World} {B n:Nat} {s:ByteArray} {x:W11} (hx:UsC11 w B s x n) (he:W.heap[B]? = w.heap[B]?):UsC11 W B s x n:=by
 have hB:=hx.lt
 have hc:∀ i,W.cell? ⟨B,i,none⟩=w.cell? ⟨B,i,none⟩:=fun i=>World.cell?_of_block he
 refine ⟨?_,(hc 0).trans hx.c0,(hc 1).trans hx.c1,(hc 2).trans hx.c2,(hc 3).trans hx.c3,(hc 4).trans hx.c4⟩
 rw [Array.getElem?_eq_getElem hB] at he
 exact (Array.getElem?_eq_some_iff.1 he).1
theorem UsC11.below_at {w W:World} {B m:Nat} {s:ByteArray} {x:W11} (hx:UsC11 w B s x m) {n:Nat} (hn:B<n) (hb:Below n w W):UsC11 W B s x m:=hx.of_heap (hb.block B hn)





end Go.Proofs.YteegkoicalbkbaaGreatDoor
namespace Go.Proofs.YteegkoicalbkbaaGreatDoor
open Go.RowKit Go.Maps
set_option linter.unusedSectionVars false

theorem jz {w:World} {b1 b2 s1 s2 n1 n2:Nat} {e1 e2:TypeId} {v1 v2:Value} {xs1 xs2:List Value} (h1:w.ownsRow b1 e1 s1 v1 n1 xs1) (h2:w.ownsRow b2 e2 s2 v2 n2 xs2) (he:e1≠e2):v1.ownBlock=none∨v1.ownBlock≠v2.ownBlock:=by
  rcases h1.2 with ⟨rfl,_⟩ | ⟨g,cap,cur,rfl,_,hg,_⟩
  · exact .inl rfl
  · rcases h2.2 with ⟨rfl,_⟩ | ⟨g2,cap2,cur2,rfl,_,hg2,_⟩
    · exact .inr (by simp [Value.ownBlock])
    · refine .inr fun e=>?_
      have:g=g2:=by simpa [Value.ownBlock] using e
      subst this
      rw [hg] at hg2
      injection hg2 with h
      injection h with _ h
      exact he h

def Jt (b:Nat) (w:World) (R:yT W11):Prop:=∀ p∈R,w.ownsRow b 9 1 (.slice p.2.ga p.2.gs.length p.2.gc) p.2.gs.length (p.2.gs.map encStr)
def Uy (R:yT W11):xo:=R.map fun p=>(p.1,p.2.u)
def Rc11 (b:Nat) (R:yT W11) (w:World) (v:Value):Prop:=w.ownsRow b 192 5 v R.length (R.flatMap FY)∧Jt b w R
section
variable {w w':World} {b:Nat} {R:yT W11} {v:Value}
theorem Jt.later (h:Jt b w R) (hb:Below w.heap.size w w'):Jt b w' R:=fun p hp=>zU (h p hp) hb
theorem Jt.keeps (h:Jt b w R) (hk:yF w w'):Jt b w' R:=fun p hp=>qa (h p hp) hk (by decide) (by decide) (by decide)
theorem Jt.low (h:Jt b w R) {a:Nat} (ha:a≤b):Jt a w R:=fun p hp=>zy (h p hp) ha
theorem Rc11.later (h:Rc11 b R w v) (hb:Below w.heap.size w w'):Rc11 b R w' v:=⟨zU h.1 hb,h.2.later hb⟩
theorem Rc11.keeps (h:Rc11 b R w v) (hk:yF w w'):Rc11 b R w' v:=⟨qa h.1 hk (by decide) (by decide) (by decide),h.2.keeps hk⟩
theorem Rc11.low (h:Rc11 b R w v) {a:Nat} (ha:a≤b):Rc11 a R w v:=⟨zy h.1 ha,h.2.low ha⟩
theorem Rc11.rw (h:Rc11 b R w v):Rw11 R w v:=Rw11.of_own h.1
theorem Rc11.nil (b:Nat) (w:World):Rc11 b [] w (.slice none 0 0):=⟨World.ownsRow_nil _ _ _ _,(fun _ h=>nomatch h)⟩
end

section
variable [Fr11] {w0 w:World} {D P M G:Nat} {A:zu} {L:zl} {S:zo} {k:Nat}
set_option maxRecDepth 100000 in
theorem Fi (ho:zt w0 w D P M G A L S) (hg:zn A L S k):Calls Tryz.prog 368 #[.pointer (some ⟨D,0,none⟩)] w fun e w'=>∃ v R,e=.returned v∧Rc11 w.heap.size R w' v∧Uy R=zm A L S∧Below w.heap.size w w':=by
  have HN:=za (fp ho hg.rise hg.few)
  have HT:Hid (∀ W n,Below w.heap.size w W→n.size≤9223372036854775807→Calls Tryz.prog 370 #[.pointer (some ⟨D,0,none⟩),.string n] W fun e w'=>∃ v,e=.returned v∧ZF A L S n w w' v∧Below W.heap.size W w'):=fun W n hb hn =>
    (Yr n (ho.later hb) hg.grp hn).mono fun e w' ⟨v,he,ht,hb'⟩=>⟨v,he,ht.low hb,hb'⟩
  have HG:=za hg
  have hfew:=hg.few
  clear ho hg
  obtain ⟨i0,hi,hz0,hz1,hz2⟩:=info_parts infoUser11
  obtain ⟨n,hn⟩:∃ n,n=A.length:=⟨_,rfl⟩
  have HLN:Hid (A.length=n):=hn.symm
  rw [← hn] at hfew
  clear hn
  go_enter Tryz.func368,Tryz.ntmps368
  go_wp2_with fail
  with_reducible refine HN.out.mono ?_
  rintro e w1 ⟨v,rfl,hrow,hb⟩
  rw [xu,HLN.out] at hrow
  have hlen:(zc A).length=n:=by rw [xu]; exact HLN.out
  obtain ⟨AA,c,rfl⟩:∃ AA c,v=.slice AA n c:=by
    have:=xL (ls:=zc A) (by rw [hlen]; exact hrow)
    rwa [hlen] at this
  have HRW:=za hrow
  have HB:=za hb
  have HLE:=za hlen
  clear hb hrow HN hlen
  go_wp2
  go_loopg [3,5,9] n (fun gg s3 _ s9 wr=>∃ k:Nat,k≤n∧n - k≤gg∧s9=.int .i64 k∧Hid (Below w.heap.size w wr)∧Hid (wr.ownsRow w.heap.size 9 1 (.slice AA n c) n ((zc A).map encStr))∧∃ R:yT W11,R.length=k∧Hid (Uy R=(zm A L S).take k)∧Hid (wr.ownsRow w.heap.size 192 5 s3 k (R.flatMap FY))∧Hid (Jt w.heap.size wr R))
  case atStart=>exact ⟨0,Nat.zero_le _,by omega,rfl,HB,HRW,[],rfl,rfl,World.ownsRow_nil _ _ _ _,(fun _ h=>nomatch h)⟩
  case round =>
    obtain ⟨k,hk,hg,rfl,HW,HR2,R,hRl,HPL,HU,HGS⟩:=hrel
    by_cases hlt:k<n
    · have hltz:(k:Int)<(n:Int):=by omega
      have hkl:k<A.length:=by have:=HLN.out; omega
      have hr2:=HR2.out
      have hle:=HLE.out
      obtain ⟨g,cx,e1,hcell⟩:=Z9 (ls:=zc A) (by rw [hle]; exact hr2) (zg.refl (fun _=>False) wr) (fun _ _ _ _ _ _ f=>f) (k:=k) (by rw [hle]; exact hlt)
      injection e1 with e1 e2 e3
      subst e1
      subst e3
      clear e2
      have hnm:(zc A)[k]'(by rw [hle]; exact hlt)=A[k].1:=by simp [zc]
      rw [hnm] at hcell
      have hna:A[k]∈A:=List.getElem_mem hkl
      have hsz:(yf A[k].1).size≤9223372036854775807:=by
        rw [xO]
        exact Nat.le_trans (qN (HG.out.nm _ hna).1) (by decide)
      have HTK:=za (HT.out wr (yf A[k].1) HW.out hsz)
      have hgk:qn A A[k].1=some A[k].2:=(yl HG.out.rise).2 hna
      have HTE:Hid (xP L S A[k].1 A[k].2=⟨qK A A[k].1,yM L A[k].1,uj A A[k].1,xc S A[k].1⟩):=by
        show _=_
        unfold xP qK uj
        rw [hgk]
      have HTT:Hid ((zm A L S).take (k+1)=(zm A L S).take k++[(A[k].1,xP L S A[k].1 A[k].2)]):=by
        have hkt:k<(zm A L S).length:=by rw [jT]; exact hkl
        show _=_
        rw [List.take_succ_eq_append_getElem hkt]
        congr 1
        simp [zm]
      have HNM:Hid ((yf A[k].1).data.toList=A[k].1):=zT _
      generalize hkn:A[k].1=kn at *
      generalize hsn:yf kn=sn at *
      have HSN:=za hsn
      clear hnm hr2 hle hsz hna hgk hkn hsn
      go_wp2_with fail
      with_reducible refine HTK.out.mono ?_
      rintro e w2 ⟨v,rfl,⟨ga,gc,rfl,hgr⟩,hb⟩
      rw [HNM.out] at hgr ⊢
      have HGR:=za hgr
      have HU2:=za (zU HU.out hb)
      have HR3:=za (zU HR2.out hb)
      have HGS2:=za (HGS.out.later hb)
      have HB2:=za (z7 HW.out hb)
      clear hgr hb HTK hcell
      generalize hha:yf (qK A kn)=sh at *
      have HHA:Hid (sh.data.toList=qK A kn):=by rw [← hha]; exact zT _
      generalize hhm:yf (yM L kn)=sm at *
      have HHM:Hid (sm.data.toList=yM L kn):=by rw [← hhm]; exact zT _
      clear hha hhm
      generalize hdd:uj A kn=dd at *
      generalize hgs:xc S kn=gs at *
      generalize hgl:gs.length=gl at *
      have HGL:=za hgl
      clear hdd hgs hgl
      have hrk:k≤12:=by omega
      go_wp2_with (first
        | (at_builtin; refine wpList_append_own _ rfl _ _ 28 rfl w.heap.size 192 i0 (.agg #[.string ⟨#[]⟩,.string ⟨#[]⟩,.string ⟨#[]⟩,.bool false,.slice none 0 0]) 5 80 Tryz.underlying28 hi hz0 hz1 hz2 rfl (by decide) _ _ _ rfl (HU2.out.alloc _) ⟨w2.heap.size,0,none⟩ 1 1 [.string sn,.string sh,.string sm,.bool dd,.slice ga gl gc] rfl rfl
            (fun j u hu=>by rw [Addr.add_lit,Nat.zero_add,World.cell?_alloc_at _ _ _ _ rfl]; simpa using hu) (by simp [Value.oneCell']) (by unfold maxLen; omega) (by omega) (by have:=HB2.out.size; simp; omega) ?_
           intro v' w3 hown' hgrow _
           have HO:=za hown'
           have HGW:=za hgrow
           clear hown' hgrow)
        | fail)
      go_roundg (n - (k+1))
      case measure=>omega
      case rel =>
        refine ⟨k+1,by omega,by omega,by go_num,(show Hid _ from ?_),(show Hid _ from ?_),R++[(kn,⟨sh,sm,dd,ga,gs,gc⟩)],by rw [List.length_append,hRl]; rfl,(show Hid _ from ?_),(show Hid _ from ?_),(show Hid _ from ?_)⟩
        · exact (z7 HB2.out (zb (Below.refl _ _) _)).grown HGW.out (by have:=HB2.out.size; simp; omega) (fun j hj=>(HU2.out.lt j hj).1)
        · exact (HR3.out.alloc _).kept HGW.out (jz HR3.out HU2.out (by decide))
        · show Uy _=_
          rw [HTT.out,HTE.out,← HPL.out]
          unfold Uy
          rw [List.map_append]
          show _++[(kn,W11.u ⟨sh,sm,dd,ga,gs,gc⟩)]=_
          unfold W11.u
          rw [HHA.out,HHM.out]
        · rw [List.flatMap_append]
          have ho:=HO.out
          have e:[(kn,(⟨sh,sm,dd,ga,gs,gc⟩:W11))].flatMap FY=[.string sn,.string sh,.string sm,.bool dd,.slice ga gl gc]:=by
            simp [FY,HSN.out,HGL.out]
          rw [e]
          exact ho
        · intro p hp
          rcases List.mem_append.1 hp with hp | hp
          · have h:=HGS2.out p hp
            exact (h.alloc _).kept HGW.out (jz h HU2.out (by decide))
          · obtain rfl:=List.mem_singleton.1 hp
            have h:=HGR.out
            show World.ownsRow _ _ _ _ (.slice ga gs.length gc) gs.length (gs.map encStr)
            rw [HGL.out]
            exact (h.alloc _).kept HGW.out (jz h HU2.out (by decide))
    · have hltz:¬ (k:Int)<(n:Int):=by omega
      obtain rfl:k=n:=by omega
      go_wp2
      go_ret
      have hp:=HPL.out
      have hu:=HU.out
      rw [← hRl] at hu
      rw [List.take_of_length_le (by rw [jT,HLN.out]; exact Nat.le_refl _)] at hp
      exact ⟨_,rfl,R,⟨hu,HGS.out⟩,hp,HW.out⟩
end
end Go.Proofs.YteegkoicalbkbaaGreatDoor
namespace Go.Proofs.YteegkoicalbkbaaGreatDoor
open Go.RowKit Go.Maps

section
variable {W W':World} {b:Nat} {v1 v2:Value}
theorem alloc_at11 {W:World} {o:Obj} {n:Nat} (h:W.heap.size=n):(W.alloc o).heap[n]? = some o:=by
 subst h
 exact (MapKept.heap_alloc W _).1
end



theorem Jt.put {b:Nat} {w:World} {R:yT W11} (h:Jt b w R) (n:List UInt8) (x:W11) (hx:w.ownsRow b 9 1 (.slice x.ga x.gs.length x.gc) x.gs.length (x.gs.map encStr)):Jt b w (yR R n x):=fun p hp=>by
 rcases yJ.1 hp with rfl | ⟨hp,_⟩
 ·
  exact hx
 ·
  exact h p hp
theorem Jt.del {b:Nat} {w:World} {R:yT W11} (h:Jt b w R) (n:List UInt8):Jt b w (xK R n):=fun p hp=>h p (yz.1 hp).1
theorem Jt.get {b:Nat} {w:World} {R:yT W11} (h:Jt b w R) (hr:zG R) {n:List UInt8} {x:W11} (hx:qn R n=some x):NmR w (.slice x.ga x.gs.length x.gc) x.gs:=zy (h (n,x) ((yl hr).1 hx)) (Nat.zero_le _)




end Go.Proofs.YteegkoicalbkbaaGreatDoor
