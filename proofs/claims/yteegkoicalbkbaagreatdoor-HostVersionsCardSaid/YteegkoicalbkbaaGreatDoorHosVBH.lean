/-
  The texts that the laws of this seat share, part 8: what the code and the document's own answers tell, walked function by function.
  Conditions: each theorem's own.
-/
import Derived.Test.YteegkoicalbkbaaGreatDoorHosVBG
set_option maxHeartbeats 16000000
namespace Go.Proofs.YteegkoicalbkbaaGreatDoor
open Go.RowKit Go.Maps

structure U11 where
 hs:List UInt8
 ml:List UInt8
 dis:Bool
 gs:List (List UInt8)
abbrev zt:=yK (List UInt8×Bool)
abbrev xh:=yK U11
def xJ (L:zj) (S:zn) (n:List UInt8) (a:List UInt8×Bool):U11:=⟨a.1,yG L n,a.2,yS S n⟩
def zl (A:zt) (L:zj) (S:zn):xh:=A.map fun p=>(p.1,xJ L S p.1 p.2)

section
variable {V:Type}
theorem F3:∀ {a b:yK V},zJ a→zJ b→(∀ x,x∈a↔x∈b)→a=b
 | [],[],_,_,_=>rfl
 | [],y::s,_,_,h=>absurd ((h y).2 (by simp)) (by simp)
 | x::r,[],_,_,h=>absurd ((h x).1 (by simp)) (by simp)
 | x::r,y::s,ha,hb,h=>by
  obtain ⟨a1,a2⟩:=List.pairwise_cons.1 ha
  obtain ⟨b1,b2⟩:=List.pairwise_cons.1 hb
  have e:x=y:=by
   rcases List.mem_cons.1 ((h x).1 (by simp)) with e | hx
   ·
    exact e
   ·
    rcases List.mem_cons.1 ((h y).2 (by simp)) with e | hy
    ·
     exact e.symm
    ·
     exact absurd (b1 _ hx) (by rw [ua (a1 _ hy)]; exact Bool.noConfusion)
  subst e
  rw [F3 a2 b2 fun z=>?_]
  constructor
  ·
   intro hz
   rcases List.mem_cons.1 ((h z).1 (by simp [hz])) with e | h'
   ·
    subst e; exact absurd (a1 _ hz) (by rw [zB]; exact Bool.noConfusion)
   ·
    exact h'
  ·
   intro hz
   rcases List.mem_cons.1 ((h z).2 (by simp [hz])) with e | h'
   ·
    subst e; exact absurd (b1 _ hz) (by rw [zB]; exact Bool.noConfusion)
   ·
    exact h'
theorem ext11 {a b:yK V} (ha:zJ a) (hb:zJ b) (h:∀ k,qe a k=qe b k):a=b :=
 F3 ha hb fun x=>by rw [← ye (k:=x.1) (v:=x.2) ha,← ye (k:=x.1) (v:=x.2) hb,h]
theorem ju {L:yK V} (hr:zJ L) (k:List UInt8) (v:V) (x:List UInt8):qe (yR L k v) x=if x=k then some v else qe L x:=by
 refine Option.ext fun y=>?_
 rw [ye (xc hr k v),yM]
 by_cases e:x=k
 ·
  subst e
  rw [if_pos rfl]
  constructor
  ·
   rintro (h | ⟨_,h⟩)
   ·
    injection h with _ h; rw [h]
   ·
    exact absurd rfl h
  ·
   intro h; injection h with h; rw [h]; exact .inl rfl
 ·
  rw [if_neg e,ye hr]
  constructor
  ·
   rintro (h | ⟨h,_⟩)
   ·
    injection h with h; exact absurd h e
   ·
    exact h
  ·
   intro h; exact .inr ⟨h,e⟩
theorem Ze {L:yK V} (hr:zJ L) (k x:List UInt8):qe (xF L k) x=if x=k then none else qe L x:=by
 refine Option.ext fun y=>?_
 rw [ye (yo hr k),yu]
 by_cases e:x=k
 ·
  subst e
  rw [if_pos rfl]
  constructor
  ·
   rintro ⟨_,h⟩; exact absurd rfl h
  ·
   intro h; cases h
 ·
  rw [if_neg e,ye hr]
  exact ⟨fun h=>h.1,fun h=>⟨h,e⟩⟩
end

section
variable {A:zt} {L:zj} {S:zn}
theorem qD (A:zt) (L:zj) (S:zn):zc (zl A L S)=zc A:=by
 unfold zl zc; rw [List.map_map]; rfl
theorem jJ (A:zt) (L:zj) (S:zn):(zl A L S).length=A.length:=List.length_map _
theorem yI (h:zJ A):zJ (zl A L S):=xH h (qD A L S)
theorem ue (A:zt) (L:zj) (S:zn) (k:List UInt8):zz (zl A L S) k=zz A k:=by
 rw [Bool.eq_iff_iff,yC,yC,qD]
theorem yA (h:zJ A) (k:List UInt8):qe (zl A L S) k=(qe A k).map (xJ L S k):=by
 refine Option.ext fun y=>?_
 rw [ye (yI h)]
 unfold zl
 rw [List.mem_map]
 constructor
 ·
  rintro ⟨p,hp,e⟩
  injection e with e1 e2
  subst e1
  rw [(ye (k:=p.1) (v:=p.2) h).2 hp,← e2]; rfl
 ·
  intro hy
  cases hg:qe A k with
  | none=>rw [hg] at hy; cases hy
  | some a =>
   rw [hg] at hy
   injection hy with hy
   exact ⟨(k,a),(ye h).1 hg,by rw [← hy]⟩

/-! ### addresses -/
theorem Zf (L:zj) (n x:List UInt8):yG (vq L n) x=if x=n then [] else yG L x:=by
 by_cases e:x=n
 ·
  subst e; rw [if_pos rfl]; exact xe (Qt L x)
 ·
  rw [if_neg e]
  cases h:yF L x with
  | false=>rw [xe h,xe (by rw [Xw e]; exact h)]
  | true =>
   have h1:=vg h
   unfold yG vq
   have:∀ M:zj,((M.filter fun p=>!(p.1 == n)).find? fun p=>p.1 == x)=M.find? fun p=>p.1 == x:=by
    intro M
    induction M with
    | nil=>rfl
    | cons y r ih =>
     by_cases ey:y.1=n
     ·
      have:(y.1 == x)=false:=by simp [ey]; exact fun h=>e h.symm
      rw [List.filter_cons_of_neg (by simp [ey]),ih,List.find?_cons_of_neg (by simp [this])]
     ·
      rw [List.filter_cons_of_pos (by simp [ey])]
      by_cases ex:y.1=x
      ·
       rw [List.find?_cons_of_pos (by simp [ex]),List.find?_cons_of_pos (by simp [ex])]
      ·
       rw [List.find?_cons_of_neg (by simp [ex]),List.find?_cons_of_neg (by simp [ex]),ih]
   rw [this]
theorem YG (hr:uo L) (n a x:List UInt8):yG (vn L n a) x=if x=n then a else yG L x:=by
 by_cases e:x=n
 ·
  subst e; rw [if_pos rfl,get_put hr]
 ·
  rw [if_neg e]
  cases h:yF L x with
  | true =>
   have h1:=vg h
   exact jv (uC hr n a) (q:=(x,yG L x)) (vt.2 (.inr ⟨h1,e⟩))
  | false =>
   rw [xe h]
   refine xe ?_
   cases h2:yF (vn L n a) x with
   | false=>rfl
   | true =>
    obtain ⟨p,hp,hx⟩:=xO.1 h2
    rcases vt.1 hp with rfl | ⟨hp,_⟩
    ·
     exact absurd hx.symm e
    ·
     rw [xO.2 ⟨p,hp,hx⟩] at h; cases h

/-! ### groups -/
theorem rel11 (hr:zJ S):∃ M,uu S (zc S) M :=
 ⟨S.flatMap fun p=>p.2.map fun m=>(p.1,m.1),rfl,fun g n=>by
  rw [xI hr,List.mem_flatMap]
  constructor
  ·
   rintro ⟨p,hp,h⟩
   obtain ⟨m,hm,e⟩:=List.mem_map.1 h
   injection e with e1 e2
   exact ⟨p,hp,e1,vf.2 ⟨m,hm,e2⟩⟩
  ·
   rintro ⟨p,hp,e1,h⟩
   obtain ⟨m,hm,e2⟩:=vf.1 h
   exact ⟨p,hp,List.mem_map.2 ⟨m,hm,by rw [e1,e2]⟩⟩⟩
variable {k:Nat}
theorem in_make (hg:zC S k) {g:List UInt8} (he:qv S g=0) (x n:List UInt8):vP (jg S g) x n=vP S x n:=by
 unfold jg
 rw [if_pos he,in10_put hg.rise (U4 he).2.1]
theorem in_drop (hg:zC S k) {g:List UInt8} (he:uW S g=0) (x n:List UInt8):vP (fF S g) x n=true↔vP S x n=true∧x≠g:=by
 unfold fF
 rw [if_pos he,in10_del hg.rise]
theorem Qr (hg:zC S k) {g n:List UInt8} (he:qw S g n=0) (x m:List UInt8):vP (qQ S g n) x m=true↔vP S x m=true∨(x=g∧m=n):=by
 obtain ⟨M,hM⟩:=rel11 hg.rise
 rw [← (hM.join hg he).mem,List.mem_append,hM.mem]
 simp
theorem Qq (hg:zC S k) {g n:List UInt8} (he:ZM S g n=0) (x m:List UInt8):vP (ZL S g n) x m=true↔vP S x m=true∧(x=g→m≠n):=by
 obtain ⟨M,hM⟩:=rel11 hg.rise
 rw [← (hM.leave hg he).mem,UW,hM.mem]
theorem JO (hg:zC S k) (n x m:List UInt8):vP (qN S n) x m=true↔vP S x m=true∧m≠n:=by
 obtain ⟨M,hM⟩:=rel11 hg.rise
 rw [← (hM.remove hg n).mem,rmM_mem,hM.mem]
theorem Zd (hg:zC S k) {o n:List UInt8} (he:Z4 S o n=0) (hn:yS S n=[]) (hon:o≠n) (x m:List UInt8):vP (ZC S o n) x m=true↔(m=n∧vP S x o=true)∨(m≠n∧m≠o∧vP S x m=true):=by
 obtain ⟨M,hM⟩:=rel11 hg.rise
 rw [← (hM.rename hg he).mem,← hM.mem,← hM.mem]
 unfold renM
 rw [List.mem_map]
 have hnn:∀ y,(y,n)∉M:=fun y hy=>by
  have h1:=(xd hg.rise).2 ((hM.mem y n).1 hy)
  rw [hn] at h1; cases h1
 constructor
 ·
  rintro ⟨y,hy,e⟩
  by_cases ey:y.2=o
  ·
   rw [if_pos (by simp [ey])] at e
   injection e with e1 e2
   exact .inl ⟨e2.symm,by rw [← e1,← ey]; exact hy⟩
  ·
   rw [if_neg (by simp [ey])] at e
   subst e
   exact .inr ⟨fun e=>hnn x (by rw [← e]; exact hy),ey,hy⟩
 ·
  rintro (⟨rfl,h⟩ | ⟨h1,h2,h⟩)
  ·
   exact ⟨_,h,by simp⟩
  ·
   exact ⟨_,h,by simp [h2]⟩

theorem ofT {S':zn} (hr:zJ S) (hr':zJ S') {n n':List UInt8} (h:∀ g,vP S' g n'=true↔vP S g n=true):yS S' n'=yS S n :=
 ui (xW hr' n') (xW hr n) fun g=>by rw [xd hr',xd hr,h]
theorem of_make (hg:zC S k) {g:List UInt8} (he:qv S g=0) (n:List UInt8):yS (jg S g) n=yS S n :=
 ofT hg.rise (JU hg g).rise fun x=>by rw [in_make hg he]
theorem of_drop (hg:zC S k) {g:List UInt8} (he:uW S g=0) (n:List UInt8):yS (fF S g) n=QB (yS S n) g :=
 ui (xW (XB hg g).rise n) ((xW hg.rise n).filter _) fun x=>by
  rw [xd (XB hg g).rise,in_drop hg he,QB,List.mem_filter,xd hg.rise]
  simp
theorem of_join (hg:zC S k) {g n:List UInt8} (he:qw S g n=0) (m:List UInt8):yS (qQ S g n) m=if m=n then UJ (yS S m++[g]) else yS S m:=by
 by_cases e:m=n
 ·
  subst e
  rw [if_pos rfl]
  refine ui (xW (jt hg g m).rise m) (VT _) fun x=>?_
  rw [xd (jt hg g m).rise,Qr hg he,YT,List.mem_append,xd hg.rise]
  simp
 ·
  rw [if_neg e]
  exact ofT hg.rise (jt hg g n).rise fun x=>by rw [Qr hg he]; simp [e]
theorem of_leave (hg:zC S k) {g n:List UInt8} (he:ZM S g n=0) (m:List UInt8):yS (ZL S g n) m=if m=n then QB (yS S m) g else yS S m:=by
 by_cases e:m=n
 ·
  subst e
  rw [if_pos rfl]
  refine ui (xW (jT hg g m).rise m) ((xW hg.rise m).filter _) fun x=>?_
  rw [xd (jT hg g m).rise,Qq hg he,QB,List.mem_filter,xd hg.rise]
  simp
 ·
  rw [if_neg e]
  exact ofT hg.rise (jT hg g n).rise fun x=>by rw [Qq hg he]; simp [e]
theorem of_remove (hg:zC S k) (n m:List UInt8):yS (qN S n) m=if m=n then [] else yS S m:=by
 by_cases e:m=n
 ·
  subst e; rw [if_pos rfl]; exact removed10 hg.rise m
 ·
  rw [if_neg e]
  exact ofT hg.rise (XA hg n).rise fun x=>by rw [JO hg]; simp [e]
theorem Jr (hg:zC S k) {o n:List UInt8} (he:Z4 S o n=0) (hn:yS S n=[]) (hon:o≠n) (m:List UInt8):yS (ZC S o n) m=if m=n then yS S o else if m=o then [] else yS S m:=by
 by_cases e:m=n
 ·
  subst e; rw [if_pos rfl]
  exact ofT hg.rise (qS hg o m).rise fun x=>by rw [Zd hg he hn hon]; simp
 ·
  rw [if_neg e]
  by_cases e2:m=o
  ·
   subst e2; rw [if_pos rfl]
   refine List.eq_nil_iff_forall_not_mem.2 fun g hgm=>?_
   rw [xd (qS hg m n).rise,Zd hg he hn hon] at hgm
   simp [e] at hgm
  ·
   rw [if_neg e2]
   exact ofT hg.rise (qS hg o n).rise fun x=>by rw [Zd hg he hn hon]; simp [e,e2]
end

structure zm (A:zt) (L:zj) (S:zn) (k:Nat):Prop where
 rise:zJ A
 few:A.length≤12
 nm:∀ p∈A,zh p.1=true∧ym p.2.1=true
 mir:∃ M,yh L M
 all:∀ x∈L,May9 x
 has:∀ x∈L,zz A x.1=true
 lfew:L.length≤k
 grp:zC S k
 mem:∀ g n,vP S g n=true→zz A n=true
theorem zm.nil:zm [] [] [] 0:=⟨List.Pairwise.nil,by simp,(fun _ h=>nomatch h),⟨[],yh.nil⟩,(fun _ h=>nomatch h),(fun _ h=>nomatch h),Nat.le_refl _,zC.nil,fun g n h=>by simp [vP,Vm,qe,zz] at h⟩

def crF11 (a b c d:Bool):Int:=if a then (if b then (if c then 9 else if d then 7 else 0) else 4) else 10
def deF11 (a c:Bool):Int:=if a then (if c then 0 else 8) else 10
def shF11 (a b c d:Bool):Int:=if a then (if b then (if c then (if d then 12 else 0) else 8) else 4) else 10
def smF11 (a b c d:Bool):Int:=if a then (if b then (if c then (if d then 9 else 0) else 8) else 11) else 10
def diF11 (a c d:Bool):Int:=if a then (if c then (if d then 12 else 0) else 8) else 10
def rnF11 (a b c d:Bool):Int:=if a then (if b then (if c then (if d then 9 else 0) else 8) else 10) else 10
def mbF11 (a b c d e:Bool) (x:Int):Int:=if a then (if b then (if c then (if d then (if e then x else 0) else 8) else 8) else 10) else 10

/-! ### of the code -/
def vX (A:zt) (n:List UInt8):Bool:=match qe A n with | some a=>a.2 | none=>false
def qB (A:zt) (n:List UInt8):List UInt8:=match qe A n with | some a=>a.1 | none=>[]
def vl (m:List UInt8):Bool:=decide (m=[]) || xX m
def QI (A:zt) (n h:List UInt8):Int:=crF11 (zh n) (ym h) (zz A n) (decide (12≤A.length))
def crA11 (A:zt) (n h:List UInt8):zt:=if QI A n h=0 then yR A n (h,false) else A
def xR (A:zt) (n:List UInt8):Int:=deF11 (zh n) (zz A n)
def UM (A:zt) (n h:List UInt8):Int:=shF11 (zh n) (ym h) (zz A n) (vX A n)
def shA11 (A:zt) (n h:List UInt8):zt:=if UM A n h=0 then yR A n (h,vX A n) else A
def jZ (A:zt) (L:zj) (n m:List UInt8):Int:=smF11 (zh n) (vl m) (zz A n) (decide (jn L n m=9))
def V6 (A:zt) (L:zj) (n m:List UInt8):zj:=if jZ A L n m=0 then VU L n m else L
def Vt (A:zt) (n:List UInt8) (b:Bool):Int:=diF11 (zh n) (zz A n) (vX A n == b)
def diA11 (A:zt) (n:List UInt8) (b:Bool):zt:=if Vt A n b=0 then yR A n (qB A n,b) else A
def fX (A:zt) (o n:List UInt8):Int:=rnF11 (zh o) (zh n) (zz A o) (zz A n)
def rnA11 (A:zt) (o n:List UInt8):zt:=if fX A o n=0 then xF (yR A n (qB A o,vX A o)) o else A
def rnL11 (A:zt) (L:zj) (o n:List UInt8):zj:=if fX A o n=0 then reL9 L o n else L
def rnS11 (A:zt) (S:zn) (o n:List UInt8):zn:=if fX A o n=0 then ZC S o n else S
def yN (A:zt) (g n:List UInt8):Int:=if zh g then (if zh n then (if zz A n then 0 else 8) else 10) else 10
def Ys (A:zt) (S:zn) (g n:List UInt8):Int:=if yN A g n=0 then qw S g n else yN A g n
def joS11 (A:zt) (S:zn) (g n:List UInt8):zn:=if yN A g n=0 then qQ S g n else S
def Yr (A:zt) (S:zn) (g n:List UInt8):Int:=if yN A g n=0 then ZM S g n else yN A g n
def leS11 (A:zt) (S:zn) (g n:List UInt8):zn:=if yN A g n=0 then ZL S g n else S

/-! ### of the document -/
def disU (l:xh) (n:List UInt8):Bool:=match qe l n with | some u=>u.dis | none=>false
def gsU (l:xh) (n:List UInt8):List (List UInt8):=match qe l n with | some u=>u.gs | none=>[]
def setU (l:xh) (n:List UInt8) (f:U11→U11):xh:=match qe l n with | some u=>yR l n (f u) | none=>l
def badU (l:xh) (n a:List UInt8):Bool:=l.any fun p=>!(a == []) && (p.2.ml == a) && !(p.1 == n)
def uU (m:List UInt8):List UInt8:=if xX m then zK m else []
def dcrE (l:xh) (n h:List UInt8):Int:=crF11 (zh n) (ym h) (zz l n) (decide (12≤l.length))
def dcrL (l:xh) (n h:List UInt8):xh:=if dcrE l n h=0 then yR l n ⟨h,[],false,[]⟩ else l
def ddeE (l:xh) (n:List UInt8):Int:=deF11 (zh n) (zz l n)
def ddeL (l:xh) (n:List UInt8):xh:=if ddeE l n=0 then xF l n else l
def dshE (l:xh) (n h:List UInt8):Int:=shF11 (zh n) (ym h) (zz l n) (disU l n)
def dshL (l:xh) (n h:List UInt8):xh:=if dshE l n h=0 then setU l n (fun u=>{ u with hs:=h }) else l
def dsmE (l:xh) (n m:List UInt8):Int:=smF11 (zh n) (vl m) (zz l n) (badU l n (uU m))
def dsmL (l:xh) (n m:List UInt8):xh:=if dsmE l n m=0 then setU l n (fun u=>{ u with ml:=uU m }) else l
def ddiE (l:xh) (n:List UInt8) (b:Bool):Int:=diF11 (zh n) (zz l n) (disU l n == b)
def ddiL (l:xh) (n:List UInt8) (b:Bool):xh:=if ddiE l n b=0 then setU l n (fun u=>{ u with dis:=b }) else l
def drnE (l:xh) (o n:List UInt8):Int:=rnF11 (zh o) (zh n) (zz l o) (zz l n)
def drnL (l:xh) (o n:List UInt8):xh:=if drnE l o n=0 then (match qe l o with | some u=>yR (xF l o) n u | none=>l) else l
def dmaE11 (N:List (List UInt8)) (g:List UInt8):Int:=if zh g then (if fh N g then 9 else if 6≤N.length then 7 else 0) else 10
def dmaN11 (N:List (List UInt8)) (g:List UInt8):List (List UInt8):=if dmaE11 N g=0 then UJ (N++[g]) else N
def ddrE11 (N:List (List UInt8)) (g:List UInt8):Int:=if zh g then (if fh N g then 0 else 8) else 10
def ddrN11 (N:List (List UInt8)) (g:List UInt8):List (List UInt8):=if ddrE11 N g=0 then QB N g else N
def dropU (l:xh) (g:List UInt8):xh:=l.map fun p=>(p.1,{ p.2 with gs:=QB p.2.gs g })
def ddrL11 (l:xh) (N:List (List UInt8)) (g:List UInt8):xh:=if ddrE11 N g=0 then dropU l g else l
def djoE11 (l:xh) (N:List (List UInt8)) (g n:List UInt8):Int:=mbF11 (zh n) (zh g) (zz l n) (fh N g) (fh (gsU l n) g) 9
def djoL11 (l:xh) (N:List (List UInt8)) (g n:List UInt8):xh:=if djoE11 l N g n=0 then setU l n (fun u=>{ u with gs:=UJ (u.gs++[g]) }) else l
def dleE11 (l:xh) (N:List (List UInt8)) (g n:List UInt8):Int:=mbF11 (zh n) (zh g) (zz l n) (fh N g) (!fh (gsU l n) g) 12
def dleL11 (l:xh) (N:List (List UInt8)) (g n:List UInt8):xh:=if dleE11 l N g n=0 then setU l n (fun u=>{ u with gs:=QB u.gs g }) else l

section
variable {A:zt} {L:zj} {S:zn} {k:Nat}
theorem zm.free (h:zm A L S k) {n:List UInt8} (hn:zz A n=false):yF L n=false∧yG L n=[]∧yS S n=[]:=by
 have h1:yF L n=false:=by
  cases hh:yF L n with
  | false=>rfl
  | true =>
   obtain ⟨x,hx,e⟩:=xO.1 hh
   have:=h.has x hx
   rw [e,hn] at this; cases this
 refine ⟨h1,xe h1,List.eq_nil_iff_forall_not_mem.2 fun g hg=>?_⟩
 have:=h.mem g n ((xd h.grp.rise).1 hg)
 rw [hn] at this; cases this
theorem zm.lrise (h:zm A L S k):uo L:=by obtain ⟨_,h⟩:=h.mir; exact h.rl
theorem tell_dis (h:zm A L S k) (n:List UInt8):disU (zl A L S) n=vX A n:=by
 unfold disU vX
 rw [yA h.rise]
 cases qe A n <;> rfl
theorem tell_gs (h:zm A L S k) {n:List UInt8}:gsU (zl A L S) n=yS S n:=by
 unfold gsU
 rw [yA h.rise]
 cases hh:qe A n with
 | some a=>rfl
 | none=>exact (h.free (qF.1 hh)).2.2.symm
theorem UE (h:zJ A) (n:List UInt8) (a:List UInt8×Bool):zl (yR A n a) L S=yR (zl A L S) n (xJ L S n a) :=
 ext11 (yI (xc h n a)) (xc (yI h) n _) fun x=>by
  rw [yA (xc h n a),ju h,ju (yI h),yA h]
  by_cases e:x=n
  ·
   subst e; rw [if_pos rfl,if_pos rfl]; rfl
  ·
   rw [if_neg e,if_neg e]
theorem YD (h:zJ A) {L':zj} {S':zn} {n:List UInt8} {f:U11→U11} (ho:∀ x,x≠n→yG L' x=yG L x∧yS S' x=yS S x) (hn:∀ a,qe A n=some a→xJ L' S' n a=f (xJ L S n a)):zl A L' S'=setU (zl A L S) n f:=by
 unfold setU
 rw [yA h]
 cases hh:qe A n with
 | none =>
  refine ext11 (yI h) (yI h) fun x=>?_
  show _=qe (zl A L S) x
  rw [yA h,yA h]
  by_cases e:x=n
  ·
   subst e; rw [hh]; rfl
  ·
   unfold xJ; rw [(ho x e).1,(ho x e).2]
 | some a =>
  refine ext11 (yI h) (xc (yI h) n _) fun x=>?_
  show _=qe (yR (zl A L S) n (f (xJ L S n a))) x
  rw [yA h,ju (yI h),yA h]
  by_cases e:x=n
  ·
   subst e; rw [if_pos rfl,hh,← hn a hh]; rfl
  ·
   rw [if_neg e]; unfold xJ; rw [(ho x e).1,(ho x e).2]

theorem Jj {A:zt} {n:List UInt8} {a:List UInt8×Bool} (hf:A.length≤12) (h:zz A n=true):(yR A n a).length≤12:=Nat.le_trans (putV_has a h) hf
theorem zm.put (h:zm A L S k) {n:List UInt8} {a:List UInt8×Bool} (hn:zh n=true) (ha:ym a.1=true) (hf:(yR A n a).length≤12):zm (yR A n a) L S (k+1):=by
 have hk:∀ x,zz A x=true→zz (yR A n a) x=true:=fun x hx=>uG.2 (.inr hx)
 refine ⟨xc h.rise n a,hf,fun p hp=>?_,h.mir,h.all,fun x hx=>hk _ (h.has x hx),Nat.le_succ_of_le h.lfew,h.grp.mono (Nat.le_succ _),fun g m hm=>hk _ (h.mem g m hm)⟩
 rcases yM.1 hp with rfl | ⟨hp,_⟩
 ·
  exact ⟨hn,ha⟩
 ·
  exact h.nm p hp
theorem zm.mono (h:zm A L S k) {j:Nat} (hj:k≤j):zm A L S j:=⟨h.rise,h.few,h.nm,h.mir,h.all,h.has,Nat.le_trans h.lfew hj,h.grp.mono hj,h.mem⟩
theorem Xx (h:zm A L S k) {n:List UInt8} (hn:zz A n=true):ym (qB A n)=true:=by
 obtain ⟨a,ha⟩:=qT hn
 unfold qB
 rw [ha]
 exact (h.nm (n,a) ((ye h.rise).1 ha)).2

def qc (A':zt) (L':zj) (S':zn) (l':xh) (N':List (List UInt8)) (k:Nat):Prop:=zm A' L' S' k∧zl A' L' S'=l'∧zc S'=N'
theorem crF_zero {a b c d:Bool} (h:crF11 a b c d=0):a=true∧b=true∧c=false∧d=false:=by revert h; cases a <;> cases b <;> cases c <;> cases d <;> decide
theorem deF_zero {a c:Bool} (h:deF11 a c=0):a=true∧c=true:=by revert h; cases a <;> cases c <;> decide
theorem shF_zero {a b c d:Bool} (h:shF11 a b c d=0):a=true∧b=true∧c=true∧d=false:=by revert h; cases a <;> cases b <;> cases c <;> cases d <;> decide
theorem smF_zero {a b c d:Bool} (h:smF11 a b c d=0):a=true∧b=true∧c=true∧d=false:=by revert h; cases a <;> cases b <;> cases c <;> cases d <;> decide
theorem diF_zero {a c d:Bool} (h:diF11 a c d=0):a=true∧c=true∧d=false:=by revert h; cases a <;> cases c <;> cases d <;> decide
theorem UN {a b c d:Bool} (h:rnF11 a b c d=0):a=true∧b=true∧c=true∧d=false:=by revert h; cases a <;> cases b <;> cases c <;> cases d <;> decide

theorem cr_same (n h:List UInt8):dcrE (zl A L S) n h=QI A n h:=by unfold dcrE QI; rw [ue,jJ]
theorem cr_one (hg:zm A L S k) (n h:List UInt8):qc (crA11 A n h) L S (dcrL (zl A L S) n h) (zc S) (k+1):=by
 unfold crA11 dcrL
 rw [cr_same]
 by_cases e:QI A n h=0
 ·
  rw [if_pos e,if_pos e]
  obtain ⟨h1,h2,h3,h4⟩:=crF_zero e
  rw [decide_eq_false_iff_not] at h4
  have hf:(yR A n (h,false)).length≤12:=by have:=X9 A n (h,false); omega
  refine ⟨hg.put h1 h2 hf,?_,rfl⟩
  rw [UE hg.rise]
  obtain ⟨_,f2,f3⟩:=hg.free h3
  unfold xJ
  rw [f2,f3]
 ·
  rw [if_neg e,if_neg e]
  exact ⟨hg.mono (Nat.le_succ _),rfl,rfl⟩
theorem de_same (n:List UInt8):ddeE (zl A L S) n=xR A n:=by unfold ddeE xR; rw [ue]
theorem de_one (hg:zm A L S k) (n:List UInt8) (e:xR A n=0):qc (xF A n) (vq L n) (qN S n) (ddeL (zl A L S) n) (zc S) (k+1):=by
 unfold ddeL
 rw [de_same,if_pos e]
 have hk:∀ x,x≠n→zz A x=true→zz (xF A n) x=true:=fun x hx h=>uH.2 ⟨h,hx⟩
 have hm:∃ M,yh (vq L n) M:=by
  obtain ⟨M,hM⟩:=hg.mir
  cases hh:yF L n with
  | true=>exact ⟨_,hM.del hh⟩
  | false=>rw [qH hh]; exact ⟨M,hM⟩
 refine ⟨⟨yo hg.rise n,Nat.le_trans (fH A n) hg.few,fun p hp=>hg.nm p (yu.1 hp).1,hm,fun x hx=>hg.all x (yw.1 hx).1,fun x hx=>hk _ (yw.1 hx).2 (hg.has x (yw.1 hx).1),Nat.le_succ_of_le (Nat.le_trans (List.length_filter_le _ _) hg.lfew),(XA hg.grp n).mono (Nat.le_succ _),fun g m h=>?_⟩,?_,uk (fun v=>xF v n) S⟩
 ·
  have:=(JO hg.grp n g m).1 h
  exact hk _ this.2 (hg.mem g m this.1)
 ·
  refine ext11 (yI (yo hg.rise n)) (yo (yI hg.rise) n) fun x=>?_
  rw [yA (yo hg.rise n),Ze hg.rise,Ze (yI hg.rise),yA hg.rise]
  by_cases e:x=n
  ·
   subst e; rw [if_pos rfl,if_pos rfl]; rfl
  ·
   rw [if_neg e,if_neg e]; unfold xJ; rw [Zf,if_neg e,of_remove hg.grp,if_neg e]
theorem sh_same (hg:zm A L S k) (n h:List UInt8):dshE (zl A L S) n h=UM A n h:=by unfold dshE UM; rw [ue,tell_dis hg]
theorem sh_one (hg:zm A L S k) (n h:List UInt8):qc (shA11 A n h) L S (dshL (zl A L S) n h) (zc S) (k+1):=by
 unfold shA11 dshL
 rw [sh_same hg]
 by_cases e:UM A n h=0
 ·
  rw [if_pos e,if_pos e]
  obtain ⟨h1,h2,h3,h4⟩:=shF_zero e
  refine ⟨hg.put h1 h2 (Jj hg.few h3),?_,rfl⟩
  obtain ⟨a,ha⟩:=qT h3
  rw [UE hg.rise]
  unfold setU vX
  rw [yA hg.rise,ha]
  rfl
 ·
  rw [if_neg e,if_neg e]
  exact ⟨hg.mono (Nat.le_succ _),rfl,rfl⟩
theorem di_same (hg:zm A L S k) (n:List UInt8) (b:Bool):ddiE (zl A L S) n b=Vt A n b:=by unfold ddiE Vt; rw [ue,tell_dis hg]
theorem di_one (hg:zm A L S k) (n:List UInt8) (b:Bool):qc (diA11 A n b) L S (ddiL (zl A L S) n b) (zc S) (k+1):=by
 unfold diA11 ddiL
 rw [di_same hg]
 by_cases e:Vt A n b=0
 ·
  rw [if_pos e,if_pos e]
  obtain ⟨h1,h3,h4⟩:=diF_zero e
  refine ⟨hg.put h1 (Xx hg h3) (Jj hg.few h3),?_,rfl⟩
  obtain ⟨a,ha⟩:=qT h3
  rw [UE hg.rise]
  unfold setU qB
  rw [yA hg.rise,ha]
  rfl
 ·
  rw [if_neg e,if_neg e]
  exact ⟨hg.mono (Nat.le_succ _),rfl,rfl⟩
end

section
variable {A:zt} {L:zj} {S:zn} {k:Nat}
theorem ZP {n a:List UInt8} (h:yG L n=a) (ha:a≠[]):(n,a)∈L:=by
 cases hh:yF L n with
 | true=>have:=vg hh; rwa [h] at this
 | false=>rw [xe hh] at h; exact absurd h.symm ha
theorem fold_ne {m:List UInt8} (h:xX m=true):zK m≠[]:=fun e=>by
 have:=Yd m
 rw [e,h,JE] at this; cases this
theorem bad_same (hg:zm A L S k) (n:List UInt8) {a:List UInt8} (ha:a≠[]):badU (zl A L S) n a=QV L n a:=by
 obtain ⟨M,hM⟩:=hg.mir
 rw [Bool.eq_iff_iff]
 unfold badU QV
 simp only [List.any_eq_true,Bool.and_eq_true,Bool.not_eq_true',beq_eq_false_iff_ne,beq_iff_eq,decide_eq_true_eq]
 constructor
 ·
  rintro ⟨p,hp,⟨_,h2⟩,h3⟩
  obtain ⟨q,hq,rfl⟩:=List.mem_map.1 hp
  have h4:(q.1,a)∈L:=ZP h2 ha
  exact ⟨Z5 h4,by rw [hM.own h4]; exact h3⟩
 ·
  rintro ⟨h1,h2⟩
  have h3:=qR h1
  obtain ⟨p,hp,e⟩:=vf.1 (hg.has _ h3)
  refine ⟨_,List.mem_map.2 ⟨p,hp,rfl⟩,⟨ha,?_⟩,?_⟩
  ·
   show yG L p.1=a
   rw [e]; exact jv hg.lrise h3
  ·
   show ¬ p.1=n
   rw [e]; exact h2
theorem sm_same (hg:zm A L S k) (n m:List UInt8):dsmE (zl A L S) n m=jZ A L n m:=by
 unfold dsmE jZ
 rw [ue]
 cases h1:zh n with
 | false=>rfl
 | true =>
  by_cases hm:m=[]
  ·
   subst hm
   have:badU (zl A L S) n (uU [])=decide (jn L n []=9):=by
    have e1:uU []=[]:=rfl
    rw [e1]
    have e2:jn L n []=0:=by unfold jn; rw [if_pos h1,if_pos rfl]
    rw [e2]
    unfold badU
    rw [List.any_eq_false.2 (fun p _=>by simp)]
    rfl
   rw [this]
  ·
   cases h2:xX m with
   | false =>
    have:vl m=false:=by unfold vl; rw [h2,decide_eq_false hm]; rfl
    rw [this]; rfl
   | true =>
    have e1:uU m=zK m:=by unfold uU; rw [if_pos h2]
    rw [e1,bad_same hg n (fold_ne h2)]
    have:decide (jn L n m=9)=QV L n (zK m):=by
     unfold jn
     rw [if_pos h1,if_neg hm,if_pos h2]
     cases QV L n (zK m) <;> rfl
    rw [this]
theorem smE_zero {n m:List UInt8} (h:jZ A L n m=0):zh n=true∧vl m=true∧zz A n=true∧jn L n m=0∧(m≠[]→QV L n (zK m)=false∧xX m=true):=by
 obtain ⟨h1,h2,h3,h4⟩:=smF_zero h
 rw [decide_eq_false_iff_not] at h4
 refine ⟨h1,h2,h3,?_⟩
 unfold jn at h4 ⊢
 rw [if_pos h1] at h4 ⊢
 by_cases hm:m=[]
 ·
  rw [if_pos hm]; exact ⟨rfl,fun h=>absurd hm h⟩
 ·
  have h5:xX m=true:=by unfold vl at h2; rw [decide_eq_false hm,Bool.false_or] at h2; exact h2
  rw [if_neg hm,if_pos h5] at h4 ⊢
  cases hb:QV L n (zK m) with
  | true=>rw [hb] at h4; exact absurd rfl h4
  | false=>exact ⟨rfl,fun _=>⟨rfl,h5⟩⟩
theorem sm_one (hg:zm A L S k) (n m:List UInt8):qc A (V6 A L n m) S (dsmL (zl A L S) n m) (zc S) (k+1):=by
 unfold V6 dsmL
 rw [sm_same hg]
 by_cases e:jZ A L n m=0
 case neg=>rw [if_neg e,if_neg e]; exact ⟨hg.mono (Nat.le_succ _),rfl,rfl⟩
 rw [if_pos e,if_pos e]
 obtain ⟨h1,h2,h3,h4,h5⟩:=smE_zero e
 unfold VU
 rw [if_pos h4]
 obtain ⟨M,hM⟩:=hg.mir
 have hd:∃ M,yh (vq L n) M:=by
  cases hh:yF L n with
  | true=>exact ⟨_,hM.del hh⟩
  | false=>rw [qH hh]; exact ⟨M,hM⟩
 by_cases hm:m=[]
 ·
  subst hm
  rw [if_pos rfl]
  refine ⟨⟨hg.rise,hg.few,hg.nm,hd,fun x hx=>hg.all x (yw.1 hx).1,fun x hx=>hg.has x (yw.1 hx).1,Nat.le_succ_of_le (Nat.le_trans (List.length_filter_le _ _) hg.lfew),hg.grp.mono (Nat.le_succ _),hg.mem⟩,?_,rfl⟩
  refine YD hg.rise (fun x hx=>⟨by rw [Zf,if_neg hx],rfl⟩) (fun a _=>?_)
  show xJ (vq L n) S n a={ xJ L S n a with ml:=[] }
  unfold xJ
  rw [Zf,if_pos rfl]
 ·
  rw [if_neg hm]
  obtain ⟨h6,h7⟩:=h5 hm
  have hput:∃ M,yh (vn L n (zK m)) M:=by
   obtain ⟨M',hM'⟩:=hd
   rw [← put_del hg.lrise]
   exact ⟨_,hM'.put (Qt L n) (free9 hM h6)⟩
  refine ⟨⟨hg.rise,hg.few,hg.nm,hput,fun x hx=>?_,fun x hx=>?_,?_,hg.grp.mono (Nat.le_succ _),hg.mem⟩,?_,rfl⟩
  ·
   rcases vt.1 hx with rfl | ⟨hx,_⟩
   ·
    exact May9.of h1 h7
   ·
    exact hg.all x hx
  ·
   rcases vt.1 hx with rfl | ⟨hx,_⟩
   ·
    exact h3
   ·
    exact hg.has x hx
  ·
   rw [vz hg.lrise]
   have:=hg.lfew
   split <;> omega
  ·
   refine YD hg.rise (fun x hx=>⟨by rw [YG hg.lrise,if_neg hx],rfl⟩) (fun a _=>?_)
   show xJ (vn L n (zK m)) S n a={ xJ L S n a with ml:=uU m }
   unfold xJ uU
   rw [YG hg.lrise,if_pos rfl,if_pos h7]

theorem rn_same (o n:List UInt8):drnE (zl A L S) o n=fX A o n:=by unfold drnE fX; rw [ue,ue]
theorem rn_free (hg:zm A L S k) {o n:List UInt8} (e:fX A o n=0):zh o=true∧zh n=true∧zz A o=true∧zz A n=false∧o≠n∧Z4 S o n=0:=by
 obtain ⟨h1,h2,h3,h4⟩:=UN e
 refine ⟨h1,h2,h3,h4,(fun e=>by rw [e,h4] at h3; cases h3),?_⟩
 unfold Z4
 rw [if_pos h2,if_neg]
 rintro ⟨_,h⟩
 exact h (hg.free h4).2.2
theorem get_re (hg:zm A L S k) {o n:List UInt8} (e:fX A o n=0) (x:List UInt8):yG (reL9 L o n) x=if x=n then yG L o else if x=o then [] else yG L x:=by
 obtain ⟨h1,h2,h3,h4,h5,_⟩:=rn_free hg e
 obtain ⟨f1,f2,_⟩:=hg.free h4
 have hre:reE9 L o n=if yF L o then 0 else 8:=by unfold reE9; rw [if_pos h2,f1]; rfl
 unfold reL9
 rw [hre]
 cases hh:yF L o with
 | true =>
  rw [if_pos rfl,if_pos rfl,YG (uD hg.lrise o),Zf]
 | false =>
  rw [if_neg (by decide),xe hh]
  by_cases e1:x=n
  ·
   rw [if_pos e1,e1,f2]
  ·
   rw [if_neg e1]
   by_cases e2:x=o
   ·
    rw [if_pos e2,e2,xe hh]
   ·
    rw [if_neg e2]
theorem rn_one (hg:zm A L S k) (o n:List UInt8):qc (rnA11 A o n) (rnL11 A L o n) (rnS11 A S o n) (drnL (zl A L S) o n) (zc S) (k+1):=by
 unfold rnA11 rnL11 rnS11 drnL
 rw [rn_same]
 by_cases e:fX A o n=0
 case neg=>rw [if_neg e,if_neg e,if_neg e,if_neg e]; exact ⟨hg.mono (Nat.le_succ _),rfl,rfl⟩
 rw [if_pos e,if_pos e,if_pos e,if_pos e]
 obtain ⟨h1,h2,h3,h4,h5,h6⟩:=rn_free hg e
 obtain ⟨f1,f2,f3⟩:=hg.free h4
 obtain ⟨a,ha⟩:=qT h3
 have hA:qB A o=a.1:=by unfold qB; rw [ha]
 have hD:vX A o=a.2:=by unfold vX; rw [ha]
 rw [hA,hD,yA hg.rise,ha]
 show qc _ _ _ (yR (xF (zl A L S) o) n (xJ L S o a)) _ _
 have hr1:=xc hg.rise n a
 have hn':zz (xF (yR A n a) o) n=true:=uH.2 ⟨uG.2 (.inl rfl),Ne.symm h5⟩
 have hk:∀ x,x≠o→zz A x=true→zz (xF (yR A n a) o) x=true:=fun x hx h=>uH.2 ⟨uG.2 (.inr h),hx⟩
 have hre:reE9 L o n=if yF L o then 0 else 8:=by unfold reE9; rw [if_pos h2,f1]; rfl
 have hlen:(xF (yR A n a) o).length≤12:=by
  have q1:=X9 A n a
  have q2:=delV_lt (L:=yR A n a) (k:=o) (uG.2 (.inr h3))
  have:=hg.few
  omega
 have hL:(∃ M,yh (reL9 L o n) M)∧(∀ x∈reL9 L o n,May9 x)∧(∀ x∈reL9 L o n,zz (xF (yR A n a) o) x.1=true)∧(reL9 L o n).length≤k+1:=by
  obtain ⟨M,hM⟩:=hg.mir
  unfold reL9
  rw [hre]
  cases hh:yF L o with
  | false =>
   rw [if_neg (by decide)]
   refine ⟨⟨M,hM⟩,hg.all,fun x hx=>hk _ (fun e=>?_) (hg.has x hx),Nat.le_succ_of_le hg.lfew⟩
   have:=Qa (n:=x.1) (a:=x.2) hx
   rw [e,hh] at this; cases this
  | true =>
   rw [if_pos rfl,if_pos rfl]
   have hm:=vg hh
   have ho:Yu (vq L o) (yG L o)=false:=by
    cases hq:Yu (vq L o) (yG L o) with
    | false=>rfl
    | true =>
     obtain ⟨q1,q2⟩:=yw.1 (qR hq)
     exact absurd (hM.one q1 hm) q2
   refine ⟨⟨_,(hM.del hh).put (by rw [Xw (Ne.symm h5)]; exact f1) ho⟩,fun x hx=>?_,fun x hx=>?_,?_⟩
   ·
    rcases vt.1 hx with rfl | ⟨hx,_⟩
    ·
     exact ⟨h2,(hg.all _ hm).2⟩
    ·
     exact hg.all x (yw.1 hx).1
   ·
    rcases vt.1 hx with rfl | ⟨hx,_⟩
    ·
     exact hn'
    ·
     exact hk _ (yw.1 hx).2 (hg.has x (yw.1 hx).1)
   ·
    rw [vz (uD hg.lrise o)]
    have q1:(vq L o).length≤L.length:=List.length_filter_le _ _
    have:=hg.lfew
    split <;> omega
 refine ⟨⟨yo hr1 o,hlen,fun p hp=>?_,hL.1,hL.2.1,hL.2.2.1,hL.2.2.2,(qS hg.grp o n).mono (Nat.le_succ _),fun g m h=>?_⟩,?_,?_⟩
 ·
  rcases yM.1 (yu.1 hp).1 with rfl | ⟨hp,_⟩
  ·
   exact ⟨h2,(hg.nm (o,a) ((ye hg.rise).1 ha)).2⟩
  ·
   exact hg.nm p hp
 ·
  rcases (Zd hg.grp h6 f3 h5 g m).1 h with ⟨rfl,_⟩ | ⟨_,h2,h3⟩
  ·
   exact hn'
  ·
   exact hk _ h2 (hg.mem g m h3)
 ·
  refine ext11 (yI (yo hr1 o)) (xc (yo (yI hg.rise) o) n _) fun x=>?_
  rw [yA (yo hr1 o),Ze hr1,ju hg.rise,ju (yo (yI hg.rise) o),Ze (yI hg.rise),yA hg.rise]
  by_cases e1:x=n
  ·
   subst e1
   rw [if_neg (Ne.symm h5),if_pos rfl,if_pos rfl]
   show some (xJ _ _ x a)=_
   unfold xJ
   rw [get_re hg e,if_pos rfl,Jr hg.grp h6 f3 h5,if_pos rfl]
  ·
   rw [if_neg e1,if_neg e1]
   by_cases e2:x=o
   ·
    rw [if_pos e2,if_pos e2]; rfl
   ·
    rw [if_neg e2,if_neg e2]
    unfold xJ
    rw [get_re hg e,if_neg e1,if_neg e2,Jr hg.grp h6 f3 h5,if_neg e1,if_neg e2]
 ·
  unfold ZC
  rw [if_pos h6]
  exact uk (fun v=>fZ o n v) S

theorem tell_same {S':zn} (h:∀ n,yS S' n=yS S n):zl A L S'=zl A L S:=by
 unfold zl xJ
 exact List.map_congr_left fun p _=>by rw [h]
theorem ma_same (g:List UInt8):dmaE11 (zc S) g=qv S g:=by
 obtain h:fh (zc S) g=zz S g:=by rw [Bool.eq_iff_iff,qm,yC]
 unfold dmaE11 qv
 rw [h,xm]
theorem ma_one (hg:zm A L S k) (g:List UInt8):qc A L (jg S g) (zl A L S) (dmaN11 (zc S) g) (k+1):=by
 by_cases e:qv S g=0
 case neg =>
  unfold dmaN11 jg
  rw [ma_same,if_neg e,if_neg e]; exact ⟨hg.mono (Nat.le_succ _),rfl,rfl⟩
 refine ⟨⟨hg.rise,hg.few,hg.nm,hg.mir,hg.all,hg.has,Nat.le_succ_of_le hg.lfew,(JU hg.grp g).mono (Nat.le_succ _),fun x n h=>?_⟩,tell_same (of_make hg.grp e),?_⟩
 ·
  rw [in_make hg.grp e] at h; exact hg.mem x n h
 ·
  obtain ⟨M,hM⟩:=rel11 hg.grp.rise
  have:=(hM.make hg.grp e).names
  unfold dmaN11
  rw [ma_same,if_pos e,this]
theorem dr_same (g:List UInt8):ddrE11 (zc S) g=uW S g:=by
 obtain h:fh (zc S) g=zz S g:=by rw [Bool.eq_iff_iff,qm,yC]
 unfold ddrE11 uW zV
 rw [h,List.all_nil,Bool.and_true]
theorem dr_one (hg:zm A L S k) (g:List UInt8):qc A L (fF S g) (ddrL11 (zl A L S) (zc S) g) (ddrN11 (zc S) g) (k+1):=by
 unfold ddrL11 ddrN11
 rw [dr_same]
 by_cases e:uW S g=0
 case neg =>
  unfold fF
  rw [if_neg e,if_neg e,if_neg e]; exact ⟨hg.mono (Nat.le_succ _),rfl,rfl⟩
 rw [if_pos e,if_pos e]
 refine ⟨⟨hg.rise,hg.few,hg.nm,hg.mir,hg.all,hg.has,Nat.le_succ_of_le hg.lfew,(XB hg.grp g).mono (Nat.le_succ _),fun x n h=>hg.mem x n ((in_drop hg.grp e x n).1 h).1⟩,?_,?_⟩
 ·
  unfold dropU zl xJ
  rw [List.map_map]
  exact List.map_congr_left fun p _=>by rw [of_drop hg.grp e]; rfl
 ·
  obtain ⟨M,hM⟩:=rel11 hg.grp.rise
  exact (hM.drop hg.grp e).names.symm
theorem JS (hr:zJ S) (n g:List UInt8):fh (yS S n) g=vP S g n:=by
 rw [Bool.eq_iff_iff,qm,xd hr]
theorem jo_same (hg:zm A L S k) (g n:List UInt8):djoE11 (zl A L S) (zc S) g n=Ys A S g n:=by
 obtain h:fh (zc S) g=zz S g:=by rw [Bool.eq_iff_iff,qm,yC]
 unfold djoE11 Ys yN qw zV mbF11
 rw [ue,h,tell_gs hg,JS hg.grp.rise]
 simp only [List.all_cons,List.all_nil,Bool.and_true]
 cases zh g <;> cases zh n <;> cases zz A n <;> cases zz S g <;> cases vP S g n <;> rfl
theorem le_same (hg:zm A L S k) (g n:List UInt8):dleE11 (zl A L S) (zc S) g n=Yr A S g n:=by
 obtain h:fh (zc S) g=zz S g:=by rw [Bool.eq_iff_iff,qm,yC]
 unfold dleE11 Yr yN ZM zV mbF11
 rw [ue,h,tell_gs hg,JS hg.grp.rise]
 simp only [List.all_cons,List.all_nil,Bool.and_true]
 cases zh g <;> cases zh n <;> cases zz A n <;> cases zz S g <;> cases vP S g n <;> rfl
theorem ahead_zero {g n:List UInt8} (h:yN A g n=0):zh g=true∧zh n=true∧zz A n=true:=by
 unfold yN at h
 revert h
 cases zh g <;> cases zh n <;> cases zz A n <;> simp
theorem joE_zero {g n:List UInt8} (h:Ys A S g n=0):yN A g n=0∧qw S g n=0:=by
 unfold Ys at h
 by_cases e:yN A g n=0
 ·
  rw [if_pos e] at h; exact ⟨e,h⟩
 ·
  rw [if_neg e] at h; exact absurd h e
theorem leE_zero {g n:List UInt8} (h:Yr A S g n=0):yN A g n=0∧ZM S g n=0:=by
 unfold Yr at h
 by_cases e:yN A g n=0
 ·
  rw [if_pos e] at h; exact ⟨e,h⟩
 ·
  rw [if_neg e] at h; exact absurd h e
theorem joS_no {g n:List UInt8} (h:Ys A S g n≠0):joS11 A S g n=S:=by
 unfold joS11
 by_cases e:yN A g n=0
 ·
  unfold Ys at h
  rw [if_pos e] at h ⊢
  exact if_neg h
 ·
  rw [if_neg e]
theorem leS_no {g n:List UInt8} (h:Yr A S g n≠0):leS11 A S g n=S:=by
 unfold leS11
 by_cases e:yN A g n=0
 ·
  unfold Yr at h
  rw [if_pos e] at h ⊢
  exact if_neg h
 ·
  rw [if_neg e]
theorem jo_one (hg:zm A L S k) (g n:List UInt8):qc A L (joS11 A S g n) (djoL11 (zl A L S) (zc S) g n) (zc S) (k+1):=by
 unfold djoL11
 rw [jo_same hg]
 by_cases e:Ys A S g n=0
 case neg=>rw [joS_no e,if_neg e]; exact ⟨hg.mono (Nat.le_succ _),rfl,rfl⟩
 rw [if_pos e]
 obtain ⟨h1,h2⟩:=joE_zero e
 obtain ⟨_,_,h3⟩:=ahead_zero h1
 unfold joS11
 rw [if_pos h1]
 refine ⟨⟨hg.rise,hg.few,hg.nm,hg.mir,hg.all,hg.has,Nat.le_succ_of_le hg.lfew,jt hg.grp g n,fun x m h=>?_⟩,?_,Xs g n⟩
 ·
  rcases (Qr hg.grp h2 x m).1 h with h | ⟨_,rfl⟩
  ·
   exact hg.mem x m h
  ·
   exact h3
 ·
  refine YD hg.rise (fun x hx=>⟨rfl,by rw [of_join hg.grp h2,if_neg hx]⟩) (fun a _=>?_)
  unfold xJ
  rw [of_join hg.grp h2,if_pos rfl]
theorem le_one (hg:zm A L S k) (g n:List UInt8):qc A L (leS11 A S g n) (dleL11 (zl A L S) (zc S) g n) (zc S) (k+1):=by
 unfold dleL11
 rw [le_same hg]
 by_cases e:Yr A S g n=0
 case neg=>rw [leS_no e,if_neg e]; exact ⟨hg.mono (Nat.le_succ _),rfl,rfl⟩
 rw [if_pos e]
 obtain ⟨h1,h2⟩:=leE_zero e
 unfold leS11
 rw [if_pos h1]
 refine ⟨⟨hg.rise,hg.few,hg.nm,hg.mir,hg.all,hg.has,Nat.le_succ_of_le hg.lfew,(jT hg.grp g n).mono (Nat.le_succ _),fun x m h=>hg.mem x m ((Qq hg.grp h2 x m).1 h).1⟩,?_,?_⟩
 ·
  refine YD hg.rise (fun x hx=>⟨rfl,by rw [of_leave hg.grp h2,if_neg hx]⟩) (fun a _=>?_)
  unfold xJ
  rw [of_leave hg.grp h2,if_pos rfl]
 ·
  unfold ZL
  rw [if_pos h2]
  exact qC _ S g
end
end Go.Proofs.YteegkoicalbkbaaGreatDoor
namespace Go.Proofs.YteegkoicalbkbaaGreatDoor
open Go.RowKit Go.Maps
set_option linter.unusedSectionVars false

/-! ### accounts -/
def ea11:List UInt8×Bool→DataW Unit:=fun a=>.agg [.lit (.string a.1),.lit (.bool a.2)]
def rdA11:List Value→Option (DataW Unit×List MemPlace)
 | [.string s,.bool b]=>some (.agg [.lit (.string s.data.toList),.lit (.bool b)],[])
 | _=>none
def RA11:Value→Option (DataW Unit×List MemPlace)
 | .agg c=>rdA11 c.toList
 | _=>none
theorem ra11_inv {v:Value} {z:DataW Unit×List MemPlace} (h:RA11 v=some z):∃ s b,v=.agg #[.string s,.bool b]∧z=(ea11 (s.data.toList,b),[]):=by
 unfold RA11 at h
 split at h
 ·
  rename_i c
  unfold rdA11 at h
  split at h
  ·
   rename_i s b hc
   injection h with h
   refine ⟨s,b,?_,h.symm⟩
   have:c=[Value.string s,Value.bool b].toArray:=by rw [← hc]
   rw [this]
  ·
   cases h
 ·
  cases h
theorem ra11_at (s:ByteArray) (b:Bool):RA11 (.agg #[.string s,.bool b])=some (ea11 (s.data.toList,b),[]):=rfl
def yQ (w:World) (P:Nat) (A:zt):Prop:=w.ownsMap Tryz.prog 9 RA11 P A.length (uK ea11 A)
theorem yQ.of {w:World} {P n:Nat} {A:zt} (h:w.ownsMap Tryz.prog 9 RA11 P n (uK ea11 A)):yQ w P A:=by
 have:=vI h
 rwa [vK] at this
theorem yQ.kept {w w':World} {P:Nat} {A:zt} (h:yQ w P A) (hb:w'.heap[P]? = w.heap[P]?):yQ w' P A:=by
 obtain ⟨es,clock,h1,r⟩:=h
 exact ⟨es,clock,hb.trans h1,r⟩
theorem yQ.lt {w:World} {P:Nat} {A:zt} (h:yQ w P A):P<w.heap.size:=World.ownsMap.lt h
theorem Zv (w:World):(zeroValue 283).run Tryz.prog w=.ok (.agg #[.string ⟨#[]⟩,.bool false]) w:=by kernel_rfl
theorem at_acc11 (A:zt) (k:List UInt8):(uK ea11 A).atKey (.string k) (ea11 ([],false))=ea11 (qB A k,vX A k):=by
 unfold qB vX
 cases h:qe A k with
 | none=>rw [QQ _ h]
 | some v=>rw [YI _ h]
theorem accs11_made (w:World):yQ (w.alloc (.map #[] 0)) w.heap.size [] :=
 yQ.of (n:=0) (World.ownsMap_made (H:=Unit) w Tryz.prog 9 RA11)
def av11 (A:zt) (k:List UInt8):Value:=.agg #[.string (yl (qB A k)),.bool (vX A k)]
section
variable {w:World} {P:Nat} {A:zt}
theorem acc11_v {s:ByteArray} {v:Value} {ps:List MemPlace} (hv:RA11 v=some ((uK ea11 A).atKey (.string s.data.toList) (ea11 ([],false)),ps)):v=av11 A s.data.toList:=by
 obtain ⟨c,b,rfl,hc⟩:=ra11_inv hv
 rw [at_acc11] at hc
 injection hc with hc _
 unfold ea11 at hc
 injection hc with hc
 injection hc with h1 h2
 injection h1 with h1
 injection h1 with h1
 injection h2 with h2 _
 injection h2 with h2
 injection h2 with h2
 have h1':qB A s.data.toList=c.data.toList:=h1
 have h2':vX A s.data.toList=b:=h2
 unfold av11
 rw [h1',h2',uN]
theorem lookA11 (h:yQ w P A) (s:ByteArray) (hs:s.size≤maxLen) :
  (Instr.lookup 236 (.map (some P)) (.string s) true).run Tryz.prog w=.ok (.tuple #[av11 A s.data.toList,.bool (zz A s.data.toList)]) w:=by
 obtain ⟨v,ps,hrun,hv⟩:=World.ownsMap.look_ok h xM Tryz.underlying236 (Zv w) (ra11_at ⟨#[]⟩ false) (Zb s hs)
 rw [hrun,YH,acc11_v hv]
theorem lookA111 (h:yQ w P A) (s:ByteArray) (hs:s.size≤maxLen) :
  (Instr.lookup 236 (.map (some P)) (.string s) false).run Tryz.prog w=.ok (av11 A s.data.toList) w:=by
 obtain ⟨v,ps,hrun,hv⟩:=World.ownsMap.lookup h xM Tryz.underlying236 (Zv w) (ra11_at ⟨#[]⟩ false) (Zb s hs)
 rw [hrun,acc11_v hv]
theorem lenA11 (h:yQ w P A) (ty:TypeId):(Builtin.len_ #[236] ty #[.map (some P)]).run Tryz.prog w=.ok (.int .i64 A.length) w:=by
 have:=World.ownsMap.len h (t:=236) Tryz.underlying236 ty
 rwa [vK] at this
theorem storeA11 (h:yQ w P A) (hf:A.length≤1000) (s v:ByteArray) (b:Bool) (hs:s.size≤maxLen) :
  ∃ w',(Instr.mapUpdate 236 (.map (some P)) (.string s) (.agg #[.string v,.bool b])).run Tryz.prog w=.ok () w'∧yQ w' P (yR A s.data.toList (v.data.toList,b))∧w.mapTurned w' P:=by
 obtain ⟨w',hrun,hown,ht⟩:=World.ownsMap.store h xM Tryz.underlying236 (Nat.lt_of_le_of_lt hf (by decide)) (Zb s hs) (ra11_at v b)
 rw [QD] at hown
 exact ⟨w',hrun,yQ.of hown,ht⟩
theorem dropA11 (h:yQ w P A) (s:ByteArray) (hs:s.size≤maxLen) (ty:TypeId) :
  ∃ w',(Builtin.delete_ #[236,9] ty #[.map (some P),.string s]).run Tryz.prog w=.ok (.tuple #[]) w'∧yQ w' P (xF A s.data.toList)∧w.mapTurned w' P:=by
 obtain ⟨w',hrun,hown,ht⟩:=World.ownsMap.drop h xM Tryz.underlying236 (Zb s hs) ty
 rw [QF] at hown
 exact ⟨w',hrun,yQ.of hown,ht⟩
end

/-! ### the directory -/
def jh (M:Nat) (p q:Option Nat) (i:Nat):Prop:=i=M∨p=some i∨q=some i
def ji (G:Nat) (pg:Option Nat) (T:zq) (i:Nat):Prop:=i=G∨pg=some i∨∃ x∈T,x.2.1=i
structure yg (w:World) (D P:Nat) (A:zt) (M:Nat) (p q:Option Nat) (L LM:zj) (G:Nat) (pg:Option Nat) (T:zq):Prop where
 blk:w.heap[D]? = some (.cells #[.map (some P),.pointer (some ⟨M,0,none⟩),.pointer (some ⟨G,0,none⟩)] 240 (0,0))
 acc:yQ w P A
 idx:vQ w M p q L LM
 grp:zO w G pg T
 sep1:∀ i,jh M p q i→i≠P
 sep2:∀ i,ji G pg T i→i≠P
 sep3:∀ i,jh M p q i→ji G pg T i→False

def yy (W w':World):Prop:=∀ (k:Nat) (c:Array Value) (T:TypeId) (fr:Nat×Nat),W.heap[k]? = some (.cells c T fr)→T≠240→T≠290→T≠278→w'.heap[k]? = some (.cells c T fr)
theorem yy.of_below {W w':World} (hb:Below W.heap.size W w'):yy W w':=fun k _ _ _ h _ _ _=>(hb.block k (Array.getElem?_eq_some_iff.1 h).1).trans h
theorem yy.trans {a b c:World} (h:yy a b) (k:yy b c):yy a c:=fun i x T fr hi h1 h2 h3=>k i x T fr (h i x T fr hi h1 h2 h3) h1 h2 h3
theorem yy.refl (w:World):yy w w:=fun _ _ _ _ h _ _ _=>h

section
variable {w w':World} {D P M G:Nat} {A A':zt} {p q pg:Option Nat} {L LM L':zj} {T:zq}
theorem yg.lt (h:yg w D P A M p q L LM G pg T):D<w.heap.size:=(Array.getElem?_eq_some_iff.1 h.blk).1
theorem vZ {b c:Nat} {x y:Array Value} {X Y:TypeId} {f g:Nat×Nat} (hb:w.heap[b]? = some (.cells x X f)) (hc:w.heap[c]? = some (.cells y Y g)) (hne:X≠Y):b≠c:=fun e=>by
 subst e; rw [hb] at hc; injection hc with hc; injection hc with _ h; exact hne h
theorem Zp {c:Array Value} {X:TypeId} {fr:Nat×Nat} {B:Nat} (h:yQ w P A) (hB:w.heap[B]? = some (.cells c X fr)):P≠B:=zL h hB
theorem Zg (h:vQ w M p q L LM) {B:Nat} {c:Array Value} {X:TypeId} {fr:Nat×Nat} (hB:w.heap[B]? = some (.cells c X fr)) (hX:X≠290):¬ jh M p q B:=by
 rintro (e | e | e)
 ·
  exact vZ hB h.blk hX e
 ·
  exact vA (h.mapp.map B e) hB rfl
 ·
  exact vA (h.mapq.map B e) hB rfl
theorem Zh (h:zO w G pg T) {B:Nat} {c:Array Value} {X:TypeId} {fr:Nat×Nat} (hB:w.heap[B]? = some (.cells c X fr)) (hX:X≠278):¬ ji G pg T B:=by
 rintro (e | e | ⟨x,hx,e⟩)
 ·
  exact vZ hB h.blk hX e
 ·
  exact zL (h.map B e) hB rfl
 ·
  subst e; exact zL (h.sets x hx) hB rfl
theorem fpM_lt (h:vQ w M p q L LM) {i:Nat} (hi:jh M p q i):i<w.heap.size:=by
 rcases hi with rfl | e | e
 ·
  exact h.lt
 ·
  exact h.plt i e
 ·
  exact h.qlt i e
theorem fpG_lt (h:zO w G pg T) {i:Nat} (hi:ji G pg T i):i<w.heap.size:=by
 rcases hi with rfl | e | ⟨x,hx,rfl⟩
 ·
  exact h.lt
 ·
  exact h.mlt i e
 ·
  exact h.slt x hx
theorem vQ.turnsF {F:Nat→Prop} (h:vQ w M p q L LM) (ht:zg F w w') (hn:∀ i,jh M p q i→¬ F i):vQ w' M p q L LM :=
 h.turns ht (hn M (.inl rfl)) (fun b e=>hn b (.inr (.inl e))) (fun b e=>hn b (.inr (.inr e)))
theorem zO.turnsF {F:Nat→Prop} (h:zO w G pg T) (ht:zg F w w') (hn:∀ i,ji G pg T i→¬ F i):zO w' G pg T :=
 h.turns ht (hn G (.inl rfl)) (fun b e=>hn b (.inr (.inl e))) (fun x hx=>hn _ (.inr (.inr ⟨x,hx,rfl⟩)))
theorem yg.later (h:yg w D P A M p q L LM G pg T) (hb:Below w.heap.size w w'):yg w' D P A M p q L LM G pg T :=
 ⟨(hb.block D h.lt).trans h.blk,h.acc.kept (hb.block P h.acc.lt),h.idx.later hb,h.grp.later hb,h.sep1,h.sep2,h.sep3⟩
theorem yg.accs (h:yg w D P A M p q L LM G pg T) (ha:yQ w' P A') (ht:zg (fun i=>i=P) w w'):yg w' D P A' M p q L LM G pg T :=
 ⟨(ht.block D h.lt (fun e=>Zp h.acc h.blk e.symm)).trans h.blk,ha,h.idx.turnsF ht h.sep1,h.grp.turnsF ht h.sep2,h.sep1,h.sep2,h.sep3⟩
theorem keeps_accs (h:yg w D P A M p q L LM G pg T) (ht:zg (fun i=>i=P) w w'):yy w w':=fun k _ _ _ hk _ _ _ =>
 (ht.block k (Array.getElem?_eq_some_iff.1 hk).1 (fun e=>Zp h.acc hk e.symm)).trans hk
theorem yg.mails (h:yg w D P A M p q L LM G pg T) (hg:vN w M p q L' w'):∃ p' q' LM',yg w' D P A M p' q' L' LM' G pg T∧∀ i,jh M p' q' i→jh M p q i∨w.heap.size≤i:=by
 obtain ⟨p',q',M',hi,hp,hq,ht⟩:=hg
 have hf:∀ i,jh M p' q' i→jh M p q i∨w.heap.size≤i:=by
  rintro i (rfl | e | e)
  ·
   exact .inl (.inl rfl)
  ·
   exact (hp i e).imp (fun h=>.inr (.inl h)) id
  ·
   exact (hq i e).imp (fun h=>.inr (.inr h)) id
 have ht':zg (jh M p q) w w':=ht
 refine ⟨p',q',M',⟨(ht'.block D h.lt (Zg h.idx h.blk (by decide))).trans h.blk,h.acc.kept (ht'.block P h.acc.lt (fun f=>h.sep1 P f rfl)),hi,h.grp.turnsF ht' (fun i g f=>h.sep3 i f g),fun i f=>?_,h.sep2,fun i f g=>?_⟩,hf⟩
 ·
  rcases hf i f with f | f
  ·
   exact h.sep1 i f
  ·
   have:=h.acc.lt; omega
 ·
  rcases hf i f with f | f
  ·
   exact h.sep3 i f g
  ·
   have:=fpG_lt h.grp g; omega
theorem Xq (h:yg w D P A M p q L LM G pg T) (hg:vN w M p q L' w'):yy w w':=by
 obtain ⟨_,_,_,_,_,_,ht⟩:=hg
 exact fun k c X fr hk _ h2 _=>(zg.block ht k (Array.getElem?_eq_some_iff.1 hk).1 (Zg h.idx hk h2)).trans hk
theorem yg.grps (h:yg w D P A M p q L LM G pg T) {S':zn} (hg:zN w G pg T S' w'):∃ pg' T',yg w' D P A M p q L LM G pg' T'∧z8 T'=S'∧∀ i,ji G pg' T' i→ji G pg T i∨w.heap.size≤i:=by
 obtain ⟨p',T',hi,hS,hp,hx,ht⟩:=hg
 have hf:∀ i,ji G p' T' i→ji G pg T i∨w.heap.size≤i:=by
  rintro i (rfl | e | ⟨x,hxx,rfl⟩)
  ·
   exact .inl (.inl rfl)
  ·
   exact (hp i e).imp (fun h=>.inr (.inl h)) id
  ·
   rcases hx x hxx with ⟨y,hy,e⟩ | h
   ·
    exact .inl (.inr (.inr ⟨y,hy,e⟩))
   ·
    exact .inr h
 have ht':zg (ji G pg T) w w':=ht
 refine ⟨p',T',⟨(ht'.block D h.lt (Zh h.grp h.blk (by decide))).trans h.blk,h.acc.kept (ht'.block P h.acc.lt (fun f=>h.sep2 P f rfl)),h.idx.turnsF ht' (fun i f g=>h.sep3 i f g),hi,h.sep1,fun i f=>?_,fun i f g=>?_⟩,hS,hf⟩
 ·
  rcases hf i f with f | f
  ·
   exact h.sep2 i f
  ·
   have:=h.acc.lt; omega
 ·
  rcases hf i g with g | g
  ·
   exact h.sep3 i f g
  ·
   have:=fpM_lt h.idx f; omega
theorem keeps_grps (h:yg w D P A M p q L LM G pg T) {S':zn} (hg:zN w G pg T S' w'):yy w w':=by
 obtain ⟨_,_,_,_,_,_,ht⟩:=hg
 exact fun k c X fr hk _ _ h3=>(zg.block ht k (Array.getElem?_eq_some_iff.1 hk).1 (Zh h.grp hk h3)).trans hk
end

class Fr11 where
 F:Nat→Prop
 ob:Nat→Option Obj
 n:Nat
 lt:∀ i,F i→i<n
 ty:∀ i c T fr,F i→ob i=some (.cells c T fr)→T=240∨T=290∨T=278
instance noFr11:Fr11:=⟨fun _=>False,fun _=>none,0,fun _ h=>h.elim,fun _ _ _ _ h=>h.elim⟩
def Lo11 [Fr11] (w0:World) (i:Nat):Prop:=w0.heap.size≤i∧¬ Fr11.F i
def Fk11 [Fr11] (W:World):Prop:=Fr11.n≤W.heap.size∧∀ i,Fr11.F i→W.heap[i]? = Fr11.ob i
def VN [Fr11] (w0 W:World):Prop:=Below w0.heap.size w0 W∧Fk11 W
section
variable [Fr11] {w0 W W':World}
theorem Fk11.later (h:Fk11 W) (hb:Below W.heap.size W W'):Fk11 W':=⟨Nat.le_trans h.1 hb.size,fun i hi=>(hb.block i (Nat.lt_of_lt_of_le (Fr11.lt i hi) h.1)).trans (h.2 i hi)⟩
theorem Fk11.turn {S:Nat→Prop} (h:Fk11 W) (ht:zg S W W') (hs:∀ i,S i→¬ Fr11.F i):Fk11 W':=⟨Nat.le_trans h.1 ht.size,fun i hi=>(ht.block i (Nat.lt_of_lt_of_le (Fr11.lt i hi) h.1) (fun e=>hs i e hi)).trans (h.2 i hi)⟩
theorem Fk11.not (h:Fk11 W) {i:Nat} {c:Array Value} {T:TypeId} {fr:Nat×Nat} (hi:W.heap[i]? = some (.cells c T fr)) (h1:T≠240) (h2:T≠290) (h3:T≠278):¬ Fr11.F i:=fun f=>by
 rcases Fr11.ty i c T fr f ((h.2 i f).symm.trans hi) with h | h | h
 ·
  exact h1 h
 ·
  exact h2 h
 ·
  exact h3 h
theorem VN.later (h:VN w0 W) (hb:Below W.heap.size W W'):VN w0 W':=⟨z7 h.1 hb,h.2.later hb⟩
theorem VN.turn {S:Nat→Prop} (h:VN w0 W) (ht:zg S W W') (hs:∀ i,S i→Lo11 w0 i):VN w0 W':=⟨h.1.trans (zg.below_at ht h.1.size (fun i e=>(hs i e).1)),h.2.turn ht (fun i e=>(hs i e).2)⟩
theorem VN.new (h:VN w0 W) {i:Nat} (hi:W.heap.size≤i):Lo11 w0 i:=⟨Nat.le_trans h.1.size hi,fun f=>by have:=Fr11.lt i f; have:=h.2.1; omega⟩
end

def zu [Fr11] (w0 W:World) (D P M G:Nat) (A:zt) (L:zj) (S:zn):Prop :=
 ∃ p q LM pg T,yg W D P A M p q L LM G pg T∧z8 T=S∧(∀ i,i=D∨i=P∨jh M p q i∨ji G pg T i→Lo11 w0 i)∧VN w0 W
def zD [Fr11] (w0 W:World) (D P M G:Nat) (A:zt) (L:zj) (S:zn) (w':World):Prop:=zu w0 w' D P M G A L S∧yy W w'
section
variable [Fr11] {w0 W W':World} {D P M G:Nat} {A A':zt} {L L':zj} {S S':zn}
theorem zu.bel (h:zu w0 W D P M G A L S):VN w0 W:=by obtain ⟨_,_,_,_,_,_,_,_,h⟩:=h; exact h
theorem zu.below (h:zu w0 W D P M G A L S):Below w0.heap.size w0 W:=h.bel.1
theorem zu.later (h:zu w0 W D P M G A L S) (hb:Below W.heap.size W W'):zu w0 W' D P M G A L S:=by
 obtain ⟨p,q,LM,pg,T,hd,hS,h2,h3⟩:=h
 exact ⟨p,q,LM,pg,T,hd.later hb,hS,h2,h3.later hb⟩
theorem zu.still (h:zu w0 W D P M G A L S) (hb:Below W.heap.size W W'):zD w0 W D P M G A L S W':=⟨h.later hb,yy.of_below hb⟩
theorem zD.ahead {W1:World} (hb:Below W.heap.size W W1) (h:zD w0 W1 D P M G A L S W'):zD w0 W D P M G A L S W':=⟨h.1,(yy.of_below hb).trans h.2⟩
theorem zD.next {W1:World} {A1:zt} {L1:zj} {S1:zn} (h1:zD w0 W D P M G A1 L1 S1 W1) (h:zD w0 W1 D P M G A L S W'):zD w0 W D P M G A L S W':=⟨h.1,h1.2.trans h.2⟩
theorem zu.c0 (h:zu w0 W D P M G A L S):W.cell? ⟨D,0,none⟩=some (.map (some P)):=by
 obtain ⟨p,q,LM,pg,T,hd,_⟩:=h
 simp [World.cell?,hd.blk]
theorem zu.c1 (h:zu w0 W D P M G A L S):W.cell? ⟨D,1,none⟩=some (.pointer (some ⟨M,0,none⟩)):=by
 obtain ⟨p,q,LM,pg,T,hd,_⟩:=h
 simp [World.cell?,hd.blk]
theorem zu.c2 (h:zu w0 W D P M G A L S):W.cell? ⟨D,2,none⟩=some (.pointer (some ⟨G,0,none⟩)):=by
 obtain ⟨p,q,LM,pg,T,hd,_⟩:=h
 simp [World.cell?,hd.blk]
theorem zu.look (h:zu w0 W D P M G A L S) (s:ByteArray) (hs:s.size≤9223372036854775807) :
  (Instr.lookup 236 (.map (some P)) (.string s) true).run Tryz.prog W=.ok (.tuple #[av11 A s.data.toList,.bool (zz A s.data.toList)]) W:=by
 obtain ⟨p,q,LM,pg,T,hd,_⟩:=h
 exact lookA11 hd.acc s (Nat.le_trans hs (by decide))
theorem zu.look1 (h:zu w0 W D P M G A L S) (s:ByteArray) (hs:s.size≤9223372036854775807) :
  (Instr.lookup 236 (.map (some P)) (.string s) false).run Tryz.prog W=.ok (av11 A s.data.toList) W:=by
 obtain ⟨p,q,LM,pg,T,hd,_⟩:=h
 exact lookA111 hd.acc s (Nat.le_trans hs (by decide))
theorem zu.lenA (h:zu w0 W D P M G A L S) (ty:TypeId):(Builtin.len_ #[236] ty #[.map (some P)]).run Tryz.prog W=.ok (.int .i64 A.length) W:=by
 obtain ⟨p,q,LM,pg,T,hd,_⟩:=h
 exact lenA11 hd.acc ty
theorem zu.accs (h:zu w0 W D P M G A L S) (ha:yQ W' P A') (ht:W.mapTurned W' P):zD w0 W D P M G A' L S W':=by
 obtain ⟨p,q,LM,pg,T,hd,hS,h2,h3⟩:=h
 have ht':zg (fun i=>i=P) W W':=(zg.refl _ W).grown ht.grown (fun k hk _=>by cases hk; rfl)
 exact ⟨⟨p,q,LM,pg,T,hd.accs ha ht',hS,h2,h3.turn ht' (fun i e=>h2 i (.inr (.inl e)))⟩,keeps_accs hd ht'⟩
theorem zu.store (h:zu w0 W D P M G A L S) (hf:A.length≤1000) (s v:ByteArray) (b:Bool) (hs:s.size≤9223372036854775807) :
  ∃ w',(Instr.mapUpdate 236 (.map (some P)) (.string s) (.agg #[.string v,.bool b])).run Tryz.prog W=.ok () w'∧zD w0 W D P M G (yR A s.data.toList (v.data.toList,b)) L S w':=by
 have h':=h
 obtain ⟨p,q,LM,pg,T,hd,_⟩:=h'
 obtain ⟨w',hrun,ha,ht⟩:=storeA11 hd.acc hf s v b (Nat.le_trans hs (by decide))
 exact ⟨w',hrun,h.accs ha ht⟩
theorem zu.drop (h:zu w0 W D P M G A L S) (s:ByteArray) (hs:s.size≤9223372036854775807) (ty:TypeId) :
  ∃ w',(Builtin.delete_ #[236,9] ty #[.map (some P),.string s]).run Tryz.prog W=.ok (.tuple #[]) w'∧zD w0 W D P M G (xF A s.data.toList) L S w':=by
 have h':=h
 obtain ⟨p,q,LM,pg,T,hd,_⟩:=h'
 obtain ⟨w',hrun,ha,ht⟩:=dropA11 hd.acc s (Nat.le_trans hs (by decide)) ty
 exact ⟨w',hrun,h.accs ha ht⟩
/-! ### of the addresses -/
theorem zu.mset (h:zu w0 W D P M G A L S) (n m:ByteArray) (hn:n.size≤9223372036854775807) (hm:m.size≤9223372036854775807) (hl:L.length<100) (h5:vO W) :
  Calls Tryz.prog 226 #[.pointer (some ⟨M,0,none⟩),.string n,.string m] W fun e w'=>e=.returned (.int .i64 (jn L n.data.toList m.data.toList))∧zD w0 W D P M G A (VU L n.data.toList m.data.toList) S w':=by
 obtain ⟨p,q,LM,pg,T,hd,hS,h2,h3⟩:=h
 refine (set9_calls M p q L LM n m W hd.idx hn hm hl h5).mono fun e w' ⟨he,hg⟩=>⟨he,?_,Xq hd hg⟩
 obtain ⟨p',q',LM',hd',hf⟩:=hd.mails hg
 obtain ⟨_,_,_,_,_,_,ht⟩:=hg
 refine ⟨p',q',LM',pg,T,hd',hS,fun i hi=>?_,h3.turn ht (fun i e=>h2 i (.inr (.inr (.inl e))))⟩
 rcases hi with e | e | e | e
 ·
  exact h2 i (.inl e)
 ·
  exact h2 i (.inr (.inl e))
 ·
  rcases hf i e with e | e
  ·
   exact h2 i (.inr (.inr (.inl e)))
  ·
   exact h3.new e
 ·
  exact h2 i (.inr (.inr (.inr e)))
theorem zu.goesM (h:zu w0 W D P M G A L S) {p q:Option Nat} {LM:zj} {pg:Option Nat} {T:zq} (hd:yg W D P A M p q L LM G pg T) (hS:z8 T=S) (h2:∀ i,i=D∨i=P∨jh M p q i∨ji G pg T i→Lo11 w0 i) (hg:vN W M p q L' W'):zD w0 W D P M G A L' S W':=by
 have h3:=h.bel
 refine ⟨?_,Xq hd hg⟩
 obtain ⟨p',q',LM',hd',hf⟩:=hd.mails hg
 obtain ⟨_,_,_,_,_,_,ht⟩:=hg
 refine ⟨p',q',LM',pg,T,hd',hS,fun i hi=>?_,h3.turn ht (fun i e=>h2 i (.inr (.inr (.inl e))))⟩
 rcases hi with e | e | e | e
 ·
  exact h2 i (.inl e)
 ·
  exact h2 i (.inr (.inl e))
 ·
  rcases hf i e with e | e
  ·
   exact h2 i (.inr (.inr (.inl e)))
  ·
   exact h3.new e
 ·
  exact h2 i (.inr (.inr (.inr e)))
theorem zu.mrename (h:zu w0 W D P M G A L S) (o n:ByteArray) (ho:o.size≤9223372036854775807) (hn:n.size≤9223372036854775807) :
  Calls Tryz.prog 362 #[.pointer (some ⟨M,0,none⟩),.string o,.string n] W fun e w'=>e=.returned (.int .i64 (reE9 L o.data.toList n.data.toList))∧zD w0 W D P M G A (reL9 L o.data.toList n.data.toList) S w':=by
 have h':=h
 obtain ⟨p,q,LM,pg,T,hd,hS,h2,h3⟩:=h'
 exact (UR M p q L LM o n W hd.idx ho hn).mono fun e w' ⟨he,hg⟩=>⟨he,h.goesM hd hS h2 hg⟩
theorem zu.mdrop (h:zu w0 W D P M G A L S) (n:ByteArray) (hn:n.size≤9223372036854775807) :
  Calls Tryz.prog 239 #[.pointer (some ⟨M,0,none⟩),.string n] W fun e w'=>e=.returned (.bool (yF L n.data.toList))∧zD w0 W D P M G A (vq L n.data.toList) S w':=by
 have h':=h
 obtain ⟨p,q,LM,pg,T,hd,hS,h2,h3⟩:=h'
 refine (qU M p q L LM n W hd.idx (Nat.le_trans hn (by decide))).mono fun e w' ⟨he,⟨M',hi⟩,ht⟩=>⟨he,h.goesM hd hS h2 ?_⟩
 exact ⟨p,q,M',hi,fun _ e=>.inl e,fun _ e=>.inl e,ht⟩
theorem zu.mof (h:zu w0 W D P M G A L S) (n:ByteArray) (hn:n.size≤9223372036854775807) :
  Calls Tryz.prog 375 #[.pointer (some ⟨M,0,none⟩),.string n] W fun e w'=>e=.returned (.tuple #[.string (tx7 (yG L n.data.toList)),.bool (yF L n.data.toList)])∧w'=W:=by
 obtain ⟨p,q,LM,pg,T,hd,_⟩:=h
 exact of9_calls M p q L LM n W hd.idx (Nat.le_trans hn (by decide))
theorem zu.mfind (h:zu w0 W D P M G A L S) (n:ByteArray) (hn:n.size≤9223372036854775807) (h5:vO W) :
  Calls Tryz.prog 372 #[.pointer (some ⟨M,0,none⟩),.string n] W fun e w'=>e=.returned (.tuple #[.string (tx7 (fiS9 L n.data.toList)),.int .i64 (fiE9 L n.data.toList)])∧Below W.heap.size W w':=by
 obtain ⟨p,q,LM,pg,T,hd,_⟩:=h
 exact find9_calls M p q L LM n W hd.idx hn h5
/-! ### of the groups -/
theorem zu.goesG (h:zu w0 W D P M G A L S) {p q:Option Nat} {LM:zj} {pg:Option Nat} {T:zq} (hd:yg W D P A M p q L LM G pg T) (h2:∀ i,i=D∨i=P∨jh M p q i∨ji G pg T i→Lo11 w0 i) (hg:zN W G pg T S' W'):zD w0 W D P M G A L S' W':=by
 have h3:=h.bel
 refine ⟨?_,keeps_grps hd hg⟩
 obtain ⟨pg',T',hd',hS,hf⟩:=hd.grps hg
 obtain ⟨_,_,_,_,_,_,ht⟩:=hg
 refine ⟨p,q,LM,pg',T',hd',hS,fun i hi=>?_,h3.turn ht (fun i e=>h2 i (.inr (.inr (.inr e))))⟩
 rcases hi with e | e | e | e
 ·
  exact h2 i (.inl e)
 ·
  exact h2 i (.inr (.inl e))
 ·
  exact h2 i (.inr (.inr (.inl e)))
 ·
  rcases hf i e with e | e
  ·
   exact h2 i (.inr (.inr (.inr e)))
  ·
   exact h3.new e
theorem few11 {T:zq} {k:Nat} (hg:zC (z8 T) k):T.length≤6:=by have:=hg.few; rwa [uR] at this
theorem Qe {T:zq} {k:Nat} (hg:zC (z8 T) k) (hk:k≤900):∀ x∈T,x.2.2.length≤1000:=fun x hx=>by
 have:=hg.little (x.1,x.2.2) (List.mem_map.2 ⟨x,hx,rfl⟩)
 exact Nat.le_trans this (by omega)
theorem named11 {T:zq} {k:Nat} (hg:zC (z8 T) k):∀ x∈T,x.1.length≤1000:=fun x hx=>by
 have:=qE (hg.named (x.1,x.2.2) (List.mem_map.2 ⟨x,hx,rfl⟩))
 exact Nat.le_trans this (by omega)
theorem rises11 {T:zq} {k:Nat} (hg:zC (z8 T) k):∀ x∈T,zJ x.2.2:=fun x hx=>hg.sets (x.1,x.2.2) (List.mem_map.2 ⟨x,hx,rfl⟩)
variable {k:Nat}
theorem zu.gmake (h:zu w0 W D P M G A L S) (hk:zC S k) (g:ByteArray) (hg:g.size≤9223372036854775807) :
  Calls Tryz.prog 160 #[.pointer (some ⟨G,0,none⟩),.string g] W fun e w'=>e=.returned (.int .i64 (qv S g.data.toList))∧zD w0 W D P M G A L (jg S g.data.toList) w':=by
 have h':=h
 obtain ⟨p,q,LM,pg,T,hd,rfl,h2,h3⟩:=h'
 exact (JD G pg T g W hd.grp (few11 hk) hg).mono fun e w' ⟨he,hgo⟩=>⟨he,h.goesG hd h2 hgo⟩
theorem zu.gdrop (h:zu w0 W D P M G A L S) (g:ByteArray) (hg:g.size≤9223372036854775807) :
  Calls Tryz.prog 364 #[.pointer (some ⟨G,0,none⟩),.string g] W fun e w'=>e=.returned (.int .i64 (uW S g.data.toList))∧zD w0 W D P M G A L (fF S g.data.toList) w':=by
 have h':=h
 obtain ⟨p,q,LM,pg,T,hd,rfl,h2,h3⟩:=h'
 exact (Fb G pg T g W hd.grp hg).mono fun e w' ⟨he,hgo⟩=>⟨he,h.goesG hd h2 hgo⟩
theorem zu.gjoin (h:zu w0 W D P M G A L S) (hk:zC S k) (h9:k≤900) (g n:ByteArray) (hg:g.size≤9223372036854775807) (hn:n.size≤9223372036854775807) :
  Calls Tryz.prog 200 #[.pointer (some ⟨G,0,none⟩),.string g,.string n] W fun e w'=>e=.returned (.int .i64 (qw S g.data.toList n.data.toList))∧zD w0 W D P M G A L (qQ S g.data.toList n.data.toList) w':=by
 have h':=h
 obtain ⟨p,q,LM,pg,T,hd,rfl,h2,h3⟩:=h'
 exact (JI G pg T g n W hd.grp (Qe hk h9) hg hn).mono fun e w' ⟨he,hgo⟩=>⟨he,h.goesG hd h2 hgo⟩
theorem zu.gleave (h:zu w0 W D P M G A L S) (g n:ByteArray) (hg:g.size≤9223372036854775807) (hn:n.size≤9223372036854775807) :
  Calls Tryz.prog 365 #[.pointer (some ⟨G,0,none⟩),.string g,.string n] W fun e w'=>e=.returned (.int .i64 (ZM S g.data.toList n.data.toList))∧zD w0 W D P M G A L (ZL S g.data.toList n.data.toList) w':=by
 have h':=h
 obtain ⟨p,q,LM,pg,T,hd,rfl,h2,h3⟩:=h'
 exact (Qh G pg T g n W hd.grp hg hn).mono fun e w' ⟨he,hgo⟩=>⟨he,h.goesG hd h2 hgo⟩
theorem zu.grename (h:zu w0 W D P M G A L S) (hk:zC S k) (h9:k≤900) (o n:ByteArray) (ho:o.size≤9223372036854775807) (hn:n.size≤9223372036854775807) :
  Calls Tryz.prog 363 #[.pointer (some ⟨G,0,none⟩),.string o,.string n] W fun e w'=>e=.returned (.int .i64 (Z4 S o.data.toList n.data.toList))∧zD w0 W D P M G A L (ZC S o.data.toList n.data.toList) w':=by
 have h':=h
 obtain ⟨p,q,LM,pg,T,hd,rfl,h2,h3⟩:=h'
 have hf:=few11 hk
 exact (Vb G pg T o n W hd.grp (by omega) (named11 hk) (Qe hk h9) ho hn).mono fun e w' ⟨he,hgo⟩=>⟨he,h.goesG hd h2 hgo⟩
theorem zu.gremove (h:zu w0 W D P M G A L S) (hk:zC S k) (n:ByteArray) (hn:n.size≤9223372036854775807) :
  Calls Tryz.prog 320 #[.pointer (some ⟨G,0,none⟩),.string n] W fun e w'=>e=.returned (.int .i64 ((yS S n.data.toList).length:Nat))∧zD w0 W D P M G A L (qN S n.data.toList) w':=by
 have h':=h
 obtain ⟨p,q,LM,pg,T,hd,rfl,h2,h3⟩:=h'
 have hf:=few11 hk
 exact (Vc G pg T n W hd.grp (by omega) (named11 hk) hn).mono fun e w' ⟨he,hgo⟩=>⟨he,h.goesG hd h2 hgo⟩
theorem zu.gmembers (h:zu w0 W D P M G A L S) (hk:zC S k) (h9:k≤900) (g:ByteArray) (hg:g.size≤9223372036854775807) :
  Calls Tryz.prog 367 #[.pointer (some ⟨G,0,none⟩),.string g] W fun e w'=>∃ v,e=.returned (.tuple #[v,.int .i64 (uW S g.data.toList)])∧w'.ownsRow W.heap.size 9 1 v (fy S g.data.toList).length ((fy S g.data.toList).map encStr)∧Below W.heap.size W w':=by
 obtain ⟨p,q,LM,pg,T,hd,rfl,h2,h3⟩:=h
 exact Xk G pg T g W hd.grp (rises11 hk) (Qe hk h9) hg
theorem zu.gof (h:zu w0 W D P M G A L S) (hk:zC S k) (n:ByteArray) (hn:n.size≤9223372036854775807) :
  Calls Tryz.prog 328 #[.pointer (some ⟨G,0,none⟩),.string n] W (zT (yS S n.data.toList) W):=by
 obtain ⟨p,q,LM,pg,T,hd,rfl,h2,h3⟩:=h
 have hf:=few11 hk
 exact jN G pg T n W hd.grp (by omega) hn
theorem zu.gall (h:zu w0 W D P M G A L S) (hk:zC S k):Calls Tryz.prog 374 #[.pointer (some ⟨G,0,none⟩)] W (zT (zc S) W):=by
 obtain ⟨p,q,LM,pg,T,hd,rfl,h2,h3⟩:=h
 have hf:=few11 hk
 exact all10_calls G pg T W hd.grp (by omega)
end
end Go.Proofs.YteegkoicalbkbaaGreatDoor
namespace Go.Proofs.YteegkoicalbkbaaGreatDoor
open Go.RowKit Go.Maps
set_option linter.unusedSectionVars false

set_option maxRecDepth 100000 in
theorem Qv (B n cap:Nat) (es:List Int) (w:World) (hl:n=es.length) (hn:n≤1000) (hc:∀ j (h:j<es.length),w.cell? ⟨B,j,none⟩=some (.int .i64 es[j])) :
  Calls Tryz.prog 152 #[.slice (some ⟨B,0,none⟩) n cap] w fun e w'=>e=.returned (.int .i64 (zE es))∧w'=w:=by
 have HC:=za hc
 have HL:=za hl
 clear hc hl
 generalize hr:zE es=r
 have HR:=za hr
 clear hr
 go_enter Tryz.func152,Tryz.ntmps152
 go_wp2
 go_loopg [4,7] n (fun gg _ s7 wr=>∃ k:Nat,k≤n∧n - k≤gg∧s7=.int .i64 k∧wr=w∧Hid (zE (es.drop k)=r))
 case atStart=>exact ⟨0,Nat.zero_le _,by omega,rfl,rfl,HR⟩
 case round =>
  obtain ⟨k,hk,hg,rfl,rfl,A⟩:=hrel
  by_cases hlt:k<n
  ·
   have hltz:(k:Int)<(n:Int):=by omega
   have hkl:k<es.length:=HL.out ▸ hlt
   have hcell:=HC.out k hkl
   have hA:(if es[k]=0 then zE (es.drop (k+1)) else es[k])=r:=by
    have:=A.out
    rw [List.drop_eq_getElem_cons hkl] at this
    exact this
   generalize es[k]=x at *
   by_cases h0:x=0
   ·
    rw [if_pos h0] at hA
    have HA:=za hA
    clear hA A
    subst h0
    go_wp2
    go_roundg (n - (k+1))
    case measure=>omega
    case rel=>exact ⟨k+1,by omega,by omega,by go_num,rfl,HA⟩
   ·
    rw [if_neg h0] at hA
    subst hA
    clear A
    go_wp2
    go_ret
    exact ⟨rfl,rfl⟩
  ·
   have hltz:¬ (k:Int)<(n:Int):=by omega
   have hA:(0:Int)=r:=by
    have:=A.out
    rw [List.drop_eq_nil_of_le (by have:=HL.out; omega)] at this
    exact this
   subst hA
   clear A
   go_wp2
   go_ret
   exact ⟨rfl,rfl⟩

set_option maxRecDepth 100000 in
theorem vp (b:Bool) (n:Int) (w:World):Calls Tryz.prog 195 #[.bool b,.int .i64 n] w fun e w'=>e=.returned (.int .i64 (zi b n))∧w'=w:=by
 cases b with
 | true =>
  show Calls _ _ _ _ fun e w'=>e=.returned (.int .i64 0)∧w'=w
  go_enter Tryz.func195,Tryz.ntmps195
  go_wp2
  go_ret
  exact ⟨rfl,rfl⟩
 | false =>
  show Calls _ _ _ _ fun e w'=>e=.returned (.int .i64 n)∧w'=w
  go_enter Tryz.func195,Tryz.ntmps195
  go_wp2
  go_ret
  exact ⟨rfl,rfl⟩


theorem YC.first11 {W:World} {v:Value} {es:List Int} (h:YC W v es) (hn:es.length≤1000):Calls Tryz.prog 152 #[v] W fun e w'=>e=.returned (.int .i64 (zE es))∧w'=W:=by
 obtain ⟨G,rfl,_,hc⟩:=h
 exact Qv G es.length es.length es W rfl hn hc
theorem vJ (W:World) (es:List Int) (t:TypeId) (hn:es.length≤1000):Calls Tryz.prog 152 #[.slice (some ⟨W.heap.size,0,none⟩) es.length es.length] (W.alloc (.cells (es.map (Value.int .i64)).toArray t)) fun e w'=>e=.returned (.int .i64 (zE es))∧w'=W.alloc (.cells (es.map (Value.int .i64)).toArray t) :=
 (XF W es t).first11 hn
set_option maxRecDepth 100000 in
theorem fD (many most:Int) (w:World):Calls Tryz.prog 157 #[.int .i64 many,.int .i64 most] w fun e w'=>e=.returned (.int .i64 (zi (decide (many≤most)) 7))∧w'=w:=by
 have HU:Hid (∀ b W,Calls Tryz.prog 195 #[.bool b,.int .i64 7] W fun e w'=>e=.returned (.int .i64 (zi b 7))∧w'=W):=fun b W=>vp b 7 W
 by_cases h:many≤most
 ·
  have hd:decide (many≤most)=true:=decide_eq_true h
  rw [hd]
  go_enter Tryz.func157,Tryz.ntmps157
  go_wp2_with fail
  with_reducible refine (HU.out _ _).mono ?_
  rintro e w' ⟨rfl,rfl⟩
  go_wp2
  go_ret
  exact ⟨rfl,rfl⟩
 ·
  have hd:decide (many≤most)=false:=decide_eq_false h
  rw [hd]
  go_enter Tryz.func157,Tryz.ntmps157
  go_wp2_with fail
  with_reducible refine (HU.out _ _).mono ?_
  rintro e w' ⟨rfl,rfl⟩
  go_wp2
  go_ret
  exact ⟨rfl,rfl⟩
set_option maxRecDepth 100000 in
theorem Vp (m:ByteArray) (w:World) (hm:m.size≤9223372036854775807) (h5:vO w):Calls Tryz.prog 360 #[.string m] w (yz (zi (vl m.data.toList) 11) w):=by
 have HM:=za (jQ m w hm h5)
 by_cases h0:m.size=0
 ·
  obtain rfl:m=⟨#[]⟩:=by
   obtain ⟨d⟩:=m
   obtain rfl:d=#[]:=Array.eq_empty_of_size_eq_zero h0
   rfl
  have:zi (vl (ByteArray.mk #[]).data.toList) 11=0:=by decide +kernel
  rw [this]
  clear HM
  go_enter Tryz.func360,Tryz.ntmps360
  go_wp2
  go_ret
  exact ⟨rfl,Below.refl _ _⟩
 ·
  have hne:¬ m.toList=[]:=fun e=>h0 (by rw [← zx,← ByteArray.toList_eq,e]; rfl)
  have hne1:¬ m.data.toList=[]:=fun e=>h0 (by rw [← zx,e]; rfl)
  have hne2:m.toList.isEmpty=false:=by simpa using hne
  have h1:vl m.data.toList=xX m.data.toList:=by unfold vl; rw [decide_eq_false hne1,Bool.false_or]
  rw [h1]
  generalize fz m.data.toList=t at *
  generalize xX m.data.toList=b at *
  unfold Mails5 at HM
  generalize zi b 11=r at *
  clear h1 hne1 hm h5
  go_enter Tryz.func360,Tryz.ntmps360
  go_wp2_with fail
  with_reducible refine HM.out.mono ?_
  rintro e w1 ⟨rfl,hb⟩
  have HB:=za hb
  clear hb HM
  go_wp2
  go_ret
  exact ⟨rfl,HB.out⟩

theorem fieldA11 (s:ByteArray) (b:Bool) (w:World):(Instr.field 283 (.agg #[.string s,.bool b]) 1).run Tryz.prog w=.ok (.bool b) w:=by kernel_rfl
section
variable [Fr11] {w0 w:World} {D P M G:Nat} {A:zt} {L:zj} {S:zn}
set_option maxRecDepth 100000 in
theorem Xy (n:ByteArray) (h:zu w0 w D P M G A L S) (hn:n.size≤9223372036854775807):Calls Tryz.prog 327 #[.pointer (some ⟨D,0,none⟩),.string n] w (yE (zz A n.data.toList) w):=by
 have c0:=h.c0
 have hl:=h.look n hn
 have hz:=Zv
 unfold av11 at hl
 have bl:∀ v:ByteArray×Bool,Below w.heap.size w (w.alloc (.cells #[.string v.1,.bool v.2] 283)):=fun v=>zb (Below.refl _ _) _
 generalize zz A n.data.toList=b at *
 generalize yl (qB A n.data.toList)=s at *
 generalize vX A n.data.toList=d at *
 clear h
 go_enter Tryz.func327,Tryz.ntmps327
 go_wp2
 go_ret
 refine ⟨rfl,?_⟩
 exact bl (s,d)
set_option maxRecDepth 100000 in
theorem yx (n:ByteArray) (h:zu w0 w D P M G A L S) (hn:n.size≤9223372036854775807):Calls Tryz.prog 319 #[.pointer (some ⟨D,0,none⟩),.string n] w (yz (zi (zz A n.data.toList) 8) w):=by
 have HU:Hid (∀ b W,Calls Tryz.prog 195 #[.bool b,.int .i64 8] W fun e w'=>e=.returned (.int .i64 (zi b 8))∧w'=W):=fun b W=>vp b 8 W
 have HH:=za (Xy n h hn)
 clear h
 generalize zz A n.data.toList=b at *
 go_enter Tryz.func319,Tryz.ntmps319
 go_wp2_with fail
 with_reducible refine HH.out.mono ?_
 rintro e w1 ⟨rfl,hb⟩
 have HB:=za hb
 clear hb HH
 go_wp2_with fail
 with_reducible refine (HU.out _ _).mono ?_
 rintro e w2 ⟨rfl,rfl⟩
 go_wp2
 go_ret
 exact ⟨rfl,HB.out⟩
set_option maxRecDepth 100000 in
theorem fg (n:ByteArray) (h:zu w0 w D P M G A L S) (hn:n.size≤9223372036854775807):Calls Tryz.prog 318 #[.pointer (some ⟨D,0,none⟩),.string n] w (yz (zi (!zz A n.data.toList) 9) w):=by
 have HU:Hid (∀ b W,Calls Tryz.prog 195 #[.bool b,.int .i64 9] W fun e w'=>e=.returned (.int .i64 (zi b 9))∧w'=W):=fun b W=>vp b 9 W
 have HH:=za (Xy n h hn)
 clear h
 generalize zz A n.data.toList=b at *
 go_enter Tryz.func318,Tryz.ntmps318
 go_wp2_with fail
 with_reducible refine HH.out.mono ?_
 rintro e w1 ⟨rfl,hb⟩
 have HB:=za hb
 clear hb HH
 go_wp2_with fail
 with_reducible refine (HU.out _ _).mono ?_
 rintro e w2 ⟨rfl,rfl⟩
 go_wp2
 go_ret
 exact ⟨rfl,HB.out⟩
set_option maxRecDepth 100000 in
theorem Vo (n:ByteArray) (h:zu w0 w D P M G A L S) (hn:n.size≤9223372036854775807):Calls Tryz.prog 326 #[.pointer (some ⟨D,0,none⟩),.string n] w (yz (zi (!vX A n.data.toList) 12) w):=by
 have HU:Hid (∀ b W,Calls Tryz.prog 195 #[.bool b,.int .i64 12] W fun e w'=>e=.returned (.int .i64 (zi b 12))∧w'=W):=fun b W=>vp b 12 W
 have c0:=h.c0
 have hl:=h.look1 n hn
 unfold av11 at hl
 have hfl:=fieldA11
 clear h
 generalize yl (qB A n.data.toList)=s at *
 generalize vX A n.data.toList=b at *
 go_enter Tryz.func326,Tryz.ntmps326
 go_wp2_with fail
 with_reducible refine (HU.out _ _).mono ?_
 rintro e w2 ⟨rfl,rfl⟩
 go_wp2
 go_ret
 exact ⟨rfl,Below.refl _ _⟩
set_option maxRecDepth 100000 in
theorem Yt (n:ByteArray) (is_:Bool) (h:zu w0 w D P M G A L S) (hn:n.size≤9223372036854775807):Calls Tryz.prog 361 #[.pointer (some ⟨D,0,none⟩),.string n,.bool is_] w (yz (zi (!(vX A n.data.toList == is_)) 12) w):=by
 have HU:Hid (∀ b W,Calls Tryz.prog 195 #[.bool b,.int .i64 12] W fun e w'=>e=.returned (.int .i64 (zi b 12))∧w'=W):=fun b W=>vp b 12 W
 have c0:=h.c0
 have hl:=h.look1 n hn
 unfold av11 at hl
 have hfl:=fieldA11
 clear h
 generalize yl (qB A n.data.toList)=s at *
 generalize vX A n.data.toList=b at *
 cases b <;> cases is_
 all_goals
  go_enter Tryz.func361,Tryz.ntmps361
  go_wp2_with fail
  with_reducible refine (HU.out _ _).mono ?_
  rintro e w2 ⟨rfl,rfl⟩
  go_wp2
  go_ret
  exact ⟨rfl,Below.refl _ _⟩
set_option maxRecDepth 100000 in
theorem Jv (h:zu w0 w D P M G A L S):Calls Tryz.prog 315 #[.pointer (some ⟨D,0,none⟩)] w fun e w'=>e=.returned (.int .i64 A.length)∧w'=w:=by
 have c0:=h.c0
 have hl:=h.lenA
 generalize A.length=n at *
 clear h
 go_enter Tryz.func315,Tryz.ntmps315
 go_wp2
 go_ret
 exact ⟨rfl,rfl⟩
set_option maxRecDepth 100000 in
theorem Q4 (m:ByteArray) (h:zu w0 w D P M G A L S) (hm:m.size≤9223372036854775807) (h5:vO w):Calls Tryz.prog 366 #[.pointer (some ⟨D,0,none⟩),.string m] w fun e w'=>e=.returned (.tuple #[.string (tx7 (fiS9 L m.data.toList)),.int .i64 (fiE9 L m.data.toList)])∧Below w.heap.size w w':=by
 have c1:=h.c1
 have HF:=za (h.mfind m hm h5)
 clear h
 generalize tx7 (fiS9 L m.data.toList)=s at *
 generalize fiE9 L m.data.toList=x at *
 go_enter Tryz.func366,Tryz.ntmps366
 go_wp2_with fail
 with_reducible refine HF.out.mono ?_
 rintro e w1 ⟨rfl,hb⟩
 have HB:=za hb
 clear hb HF c1
 go_wp2
 go_ret2
 exact ⟨rfl,HB.out⟩
variable {k:Nat}
set_option maxRecDepth 100000 in
theorem Yp (g:ByteArray) (h:zu w0 w D P M G A L S) (hk:zC S k) (h9:k≤900) (hg:g.size≤9223372036854775807):Calls Tryz.prog 353 #[.pointer (some ⟨D,0,none⟩),.string g] w fun e w'=>∃ v,e=.returned (.tuple #[v,.int .i64 (uW S g.data.toList)])∧w'.ownsRow w.heap.size 9 1 v (fy S g.data.toList).length ((fy S g.data.toList).map encStr)∧Below w.heap.size w w':=by
 have c2:=h.c2
 have HF:=za (h.gmembers hk h9 g hg)
 clear h hk
 generalize fy S g.data.toList=s at *
 generalize uW S g.data.toList=x at *
 go_enter Tryz.func353,Tryz.ntmps353
 go_wp2_with fail
 with_reducible refine HF.out.mono ?_
 rintro e w1 ⟨v,rfl,hr,hb⟩
 have HB:=za hb
 have HR:=za hr
 clear hb hr HF c2
 go_wp2
 go_ret2
 exact ⟨v,rfl,HR.out,HB.out⟩
set_option maxRecDepth 100000 in
theorem Xc (h:zu w0 w D P M G A L S) (hk:zC S k):Calls Tryz.prog 369 #[.pointer (some ⟨D,0,none⟩)] w (zT (zc S) w):=by
 have c2:=h.c2
 have HF:=za (h.gall hk)
 clear h hk
 generalize zc S=s at *
 go_enter Tryz.func369,Tryz.ntmps369
 go_wp2_with fail
 with_reducible refine HF.out.mono ?_
 rintro e w1 ⟨v,rfl,hr⟩
 have HR:=za hr
 clear hr HF c2
 go_wp2
 go_ret
 exact ⟨v,rfl,HR.out⟩
end
end Go.Proofs.YteegkoicalbkbaaGreatDoor
namespace Go.Proofs.YteegkoicalbkbaaGreatDoor
open Go.RowKit Go.Maps
set_option linter.unusedSectionVars false

def QZ (W:World) (b:Nat) (s:ByteArray) (d:Bool):Prop:=W.heap[b]? = some (.cells #[.string s,.bool d] 283 (0,0))
section
variable {W W':World} {b:Nat} {s:ByteArray} {d:Bool}
theorem QZ.c0 (h:QZ W b s d):W.cell? ⟨b,0,none⟩=some (.string s):=by simp [World.cell?,show W.heap[b]? = _ from h]
theorem QZ.c1 (h:QZ W b s d):W.cell? ⟨b,1,none⟩=some (.bool d):=by simp [World.cell?,show W.heap[b]? = _ from h]
theorem QZ.f0 (h:QZ W b s d):W.frozen? ⟨b,0,none⟩=false:=by simp [World.frozen?,show W.heap[b]? = _ from h]
theorem QZ.lt (h:QZ W b s d):b<W.heap.size:=(Array.getElem?_eq_some_iff.1 h).1
theorem QZ.later (h:QZ W b s d) (hb:Below W.heap.size W W'):QZ W' b s d:=(hb.block b h.lt).trans h
theorem ac11_new (W:World) (s:ByteArray) (d:Bool):QZ (W.alloc (.cells #[.string s,.bool d] 283)) W.heap.size s d:=(MapKept.heap_alloc W _).1
theorem QZ.set0 (h:QZ W b s d) (x:ByteArray):QZ (W.setCell ⟨b,0,none⟩ (.string x)) b x d:=by
 have h':W.heap[b]? = some (.cells #[.string s,.bool d] 283 (0,0)):=h
 have hl:=h.lt
 have:=h'
 rw [Array.getElem?_eq_getElem hl] at this
 injection this with this
 show (W.setCell ⟨b,0,none⟩ (.string x)).heap[b]? = _
 simp [World.setCell,hl,Array.getElem_modify,this]
theorem QZ.set1 (h:QZ W b s d) (x:Bool):QZ (W.setCell ⟨b,1,none⟩ (.bool x)) b s x:=by
 have h':W.heap[b]? = some (.cells #[.string s,.bool d] 283 (0,0)):=h
 have hl:=h.lt
 have:=h'
 rw [Array.getElem?_eq_getElem hl] at this
 injection this with this
 show (W.setCell ⟨b,1,none⟩ (.bool x)).heap[b]? = _
 simp [World.setCell,hl,Array.getElem_modify,this]
end

def YPt11 (D P:Nat) (n h:ByteArray) (d:Bool):Nat→Value→Prop
 | 3,v=>v=.map (some P)
 | 4,v=>v=.string n
 | 5,v=>v=.string n
 | 6,v=>v=.agg #[.string h,.bool d]
 | _,v=>v=.pointer (some ⟨D,0,none⟩)
def YPtW11 (D P:Nat) (n h:ByteArray) (d:Bool) (j:Nat) (v:Value) (_:World):Prop:=YPt11 D P n h d j v
section
variable [Fr11] {w0 w:World} {D P M G:Nat} {A:zt} {L:zj} {S:zn}
set_option maxRecDepth 100000 in
theorem uQ (n h:ByteArray) (d:Bool) (ho:zu w0 w D P M G A L S) (hf:A.length≤1000) (hn:n.size≤1000) (hh:h.size≤1000) :
  Calls Tryz.prog 201 #[.pointer (some ⟨D,0,none⟩),.string n,.agg #[.string h,.bool d]] w fun e w'=>e=.returned (.tuple #[])∧zD w0 w D P M G (yR A n.data.toList (h.data.toList,d)) L S w':=by
 have HC:Hid (∀ W,Calls Tryz.prog 191 #[.string n] W fun e w'=>e=.returned (.string n)∧Below W.heap.size W w'):=fun W=>yt n W hn
 have HC1:Hid (∀ W,Calls Tryz.prog 191 #[.string h] W fun e w'=>e=.returned (.string h)∧Below W.heap.size W w'):=fun W=>yt h W hh
 have HO:=za ho
 have HST:Hid (∀ W,Below w.heap.size w W→∃ w',(Instr.mapUpdate 236 (.map (some P)) (.string n) (.agg #[.string h,.bool d])).run Tryz.prog W=.ok () w'∧zD w0 w D P M G (yR A n.data.toList (h.data.toList,d)) L S w'):=fun W hb=>by
  obtain ⟨w',h1,h2⟩:=(ho.later hb).store hf n h d (Nat.le_trans hn (by decide))
  exact ⟨w',h1,h2.ahead hb⟩
 have HA:=za (ac11_new w h d)
 have HB0:Hid (Below w.heap.size w (w.alloc (.cells #[.string h,.bool d] 283))):=zb (Below.refl _ _) _
 clear ho hf hn hh
 go_enter Tryz.func201,Tryz.ntmps201
 go_wp2_with fail
 with_reducible refine (HC1.out _).mono ?_
 rintro e w1 ⟨rfl,hb⟩
 have ha:=HA.out.later hb
 have f0:=ha.f0
 have c0:=ha.c0
 have HA1:=za (ha.set0 h)
 have HB1:Hid (Below w.heap.size w (w1.setCell ⟨w.heap.size,0,none⟩ (.string h))):=(z7 HB0.out hb).setCell (p:=⟨w.heap.size,0,none⟩) (Nat.le_refl _) _
 clear hb HA HB0 HC1 ha
 go_wp2_with fail
 generalize w1.setCell ⟨w.heap.size,0,none⟩ (.string h)=w2 at *
 generalize w.heap.size=B5 at HA1
 clear f0 c0
 refine zA (by kernel_rfl) 7 (fun W=>Below w2.heap.size w2 W) (fun W=>zD w0 w D P M G (yR A n.data.toList (h.data.toList,d)) L S W) (YPtW11 D P n h d) (fun _=>True) ?F ?hF (by kernel_rfl) (by kernel_rfl) (by kernel_rfl) (by kernel_rfl) (by decide) (zM (Below.refl _ _)) ?step ?fin
 case hF =>
  intro x
  simp only [List.map_cons,List.map_nil,vb,Act.put,List.setIfInBounds_toArray,List.set_cons_zero,List.set_cons_succ,Nat.zero_add,Nat.reduceAdd]
  exact rfl
 case step =>
  refine ⟨?_,?_,?_,?_,?_,?_,?_,?_,trivial⟩
  ·
   intro x W
   refine ⟨fun _ hW hdep K hK=>?_,(fun h=>absurd h (by decide)),(fun h=>absurd h (by decide))⟩
   clear hdep
   go_simp
   exact hK _ _ rfl hW (fun _ _ h=>h)
  ·
   intro x W
   refine ⟨fun _ hW hdep K hK=>?_,(fun h=>absurd h (by decide)),(fun h=>absurd h (by decide))⟩
   have h0:x 0=_:=hdep 0 rfl
   clear hdep
   simp only [h0] at hK
   go_simp
   exact hK _ _ rfl hW (fun _ _ h=>h)
  ·
   intro x W
   refine ⟨fun _ hW hdep K hK=>?_,(fun h=>absurd h (by decide)),(fun h=>absurd h (by decide))⟩
   have h1:x 1=_:=hdep 1 rfl
   clear hdep
   simp only [h1] at hK
   go_simp
   exact hK _ _ rfl hW (fun _ _ h=>h)
  ·
   intro x W
   refine ⟨fun _ hW hdep K hK=>?_,(fun h=>absurd h (by decide)),(fun h=>absurd h (by decide))⟩
   have h2:x 2=_:=hdep 2 rfl
   have c:=(HO.out.later (z7 HB1.out hW)).c0
   clear hdep
   simp only [h2] at hK
   go_simp
   exact hK _ _ rfl hW (fun _ _ h=>h)
  ·
   intro x W
   refine ⟨fun _ hW hdep K hK=>?_,(fun h=>absurd h (by decide)),(fun h=>absurd h (by decide))⟩
   clear hdep
   go_simp
   exact hK _ _ rfl hW (fun _ _ h=>h)
  ·
   intro x W
   refine ⟨fun _ hW hdep K hK=>?_,(fun h=>absurd h (by decide)),(fun h=>absurd h (by decide))⟩
   have h4:x 4=_:=hdep 4 rfl
   have hc:=HC.out W
   clear hdep
   simp only [h4] at hK
   go_simp
   refine hc.mono ?_
   rintro e W' ⟨rfl,hb⟩
   exact hK _ _ rfl (z7 hW hb) (fun _ _ h=>h)
  ·
   intro x W
   refine ⟨fun _ hW hdep K hK=>?_,(fun h=>absurd h (by decide)),(fun h=>absurd h (by decide))⟩
   have hx:=HA1.out.later hW
   have c0:=hx.c0
   have c1:=hx.c1
   clear hdep
   go_simp
   exact hK _ _ rfl hW (fun _ _ h=>h)
  ·
   intro x W
   refine ⟨(fun h=>absurd h (by decide)),fun _ hW hdep K hK=>?_,(fun h=>absurd h (by decide))⟩
   have h3:x 3=_:=hdep 3 rfl
   have h5:x 5=_:=hdep 5 rfl
   have h6:x 6=_:=hdep 6 rfl
   obtain ⟨w',hrun,hg⟩:=HST.out W (z7 HB1.out hW)
   clear hdep
   simp only [h3,h5,h6] at hK
   go_simp
   exact hK undef _ trivial hg
 case fin =>
  intro x W hW _
  have HF:=za hW
  clear hW HST HC HA1 HB1 HO
  go_end0
  exact ⟨rfl,HF.out⟩

def YPm11 (D M:Nat) (n m:ByteArray):Nat→Value→Prop
 | 2,v=>v=.pointer (some ⟨D,1,none⟩)
 | 3,v=>v=.pointer (some ⟨M,0,none⟩)
 | 4,v=>v=.string n
 | 5,v=>v=.string n
 | 6,v=>v=.string m
 | _,v=>v=.pointer (some ⟨D,0,none⟩)
def YPmW11 (D M:Nat) (n m:ByteArray) (j:Nat) (v:Value) (_:World):Prop:=YPm11 D M n m j v
set_option maxRecDepth 100000 in
theorem jq (n m:ByteArray) (ho:zu w0 w D P M G A L S) (hl:L.length<100) (h5:vO w) (hn:n.size≤1000) (hm:m.size≤9223372036854775807) :
  Calls Tryz.prog 202 #[.pointer (some ⟨D,0,none⟩),.string n,.string m] w fun e w'=>e=.returned (.int .i64 (jn L n.data.toList m.data.toList))∧zD w0 w D P M G A (VU L n.data.toList m.data.toList) S w':=by
 have HC:Hid (∀ W,Calls Tryz.prog 191 #[.string n] W fun e w'=>e=.returned (.string n)∧Below W.heap.size W w'):=fun W=>yt n W hn
 have HO:=za ho
 have HST:Hid (∀ W,Below w.heap.size w W→Calls Tryz.prog 226 #[.pointer (some ⟨M,0,none⟩),.string n,.string m] W fun e w'=>e=.returned (.int .i64 (jn L n.data.toList m.data.toList))∧zD w0 w D P M G A (VU L n.data.toList m.data.toList) S w'):=fun W hb =>
  ((ho.later hb).mset n m (Nat.le_trans hn (by decide)) hm hl (h5.later hb)).mono fun e w' ⟨he,hg⟩=>⟨he,hg.ahead hb⟩
 clear ho hl hn hm h5
 generalize jn L n.data.toList m.data.toList=r at *
 generalize VU L n.data.toList m.data.toList=L' at *
 go_enter Tryz.func202,Tryz.ntmps202
 go_wp2_with fail
 refine zA (by kernel_rfl) 7 (fun W=>Below w.heap.size w W) (fun W=>zD w0 w D P M G A L' S W) (YPmW11 D M n m) (fun v=>v=.int .i64 r) ?F ?hF (by kernel_rfl) (by kernel_rfl) (by kernel_rfl) (by kernel_rfl) (by decide) (zM (Below.refl _ _)) ?step ?fin
 case hF =>
  intro x
  simp only [List.map_cons,List.map_nil,vb,Act.put,List.setIfInBounds_toArray,List.set_cons_zero,List.set_cons_succ,Nat.zero_add,Nat.reduceAdd]
  exact rfl
 case step =>
  refine ⟨?_,?_,?_,?_,?_,?_,?_,?_,?_,trivial⟩
  ·
   intro x W
   refine ⟨fun _ hW hdep K hK=>?_,(fun h=>absurd h (by decide)),(fun h=>absurd h (by decide))⟩
   clear hdep
   go_simp
   exact hK _ _ rfl hW (fun _ _ h=>h)
  ·
   intro x W
   refine ⟨fun _ hW hdep K hK=>?_,(fun h=>absurd h (by decide)),(fun h=>absurd h (by decide))⟩
   have h0:x 0=_:=hdep 0 rfl
   clear hdep
   simp only [h0] at hK
   go_simp
   exact hK _ _ rfl hW (fun _ _ h=>h)
  ·
   intro x W
   refine ⟨fun _ hW hdep K hK=>?_,(fun h=>absurd h (by decide)),(fun h=>absurd h (by decide))⟩
   have h1:x 1=_:=hdep 1 rfl
   clear hdep
   simp only [h1] at hK
   go_simp
   exact hK _ _ rfl hW (fun _ _ h=>h)
  ·
   intro x W
   refine ⟨fun _ hW hdep K hK=>?_,(fun h=>absurd h (by decide)),(fun h=>absurd h (by decide))⟩
   have h2:x 2=_:=hdep 2 rfl
   have c:=(HO.out.later hW).c1
   clear hdep
   simp only [h2] at hK
   go_simp
   exact hK _ _ rfl hW (fun _ _ h=>h)
  ·
   intro x W
   refine ⟨fun _ hW hdep K hK=>?_,(fun h=>absurd h (by decide)),(fun h=>absurd h (by decide))⟩
   clear hdep
   go_simp
   exact hK _ _ rfl hW (fun _ _ h=>h)
  ·
   intro x W
   refine ⟨fun _ hW hdep K hK=>?_,(fun h=>absurd h (by decide)),(fun h=>absurd h (by decide))⟩
   have h4:x 4=_:=hdep 4 rfl
   have hc:=HC.out W
   clear hdep
   simp only [h4] at hK
   go_simp
   refine hc.mono ?_
   rintro e W' ⟨rfl,hb⟩
   exact hK _ _ rfl (z7 hW hb) (fun _ _ h=>h)
  ·
   intro x W
   refine ⟨fun _ hW hdep K hK=>?_,(fun h=>absurd h (by decide)),(fun h=>absurd h (by decide))⟩
   clear hdep
   go_simp
   exact hK _ _ rfl hW (fun _ _ h=>h)
  ·
   intro x W
   refine ⟨(fun h=>absurd h (by decide)),fun _ hW hdep K hK=>?_,(fun h=>absurd h (by decide))⟩
   have h3:x 3=_:=hdep 3 rfl
   have h5:x 5=_:=hdep 5 rfl
   have h6:x 6=_:=hdep 6 rfl
   have hc:=HST.out W hW
   clear hdep
   simp only [h3,h5,h6] at hK
   go_simp
   refine hc.mono ?_
   rintro e W' ⟨rfl,hg⟩
   exact hK _ _ rfl hg
  ·
   intro x W
   refine ⟨(fun h=>absurd h (by decide)),(fun h=>absurd h (by decide)),fun _ hW hdep K hK=>?_⟩
   have h7:x 7=_:=hdep 7 rfl (by decide)
   clear hdep
   simp only [h7] at hK
   go_simp
   exact hK _ rfl
 case fin =>
  intro x W hW hZ
  have h8:x 8=.int .i64 r:=hZ 8 (by decide) (by decide)
  have HF:=za hW
  clear hW hZ HST HC HO
  rw [h8]
  go_wp2
  go_ret
  exact ⟨rfl,HF.out⟩
end
end Go.Proofs.YteegkoicalbkbaaGreatDoor
namespace Go.Proofs.YteegkoicalbkbaaGreatDoor
open Go.RowKit Go.Maps
set_option linter.unusedSectionVars false

theorem first11_cr (a b c d:Bool):zE [zi a 10,zi b 4,zi (!c) 9,zi (!d) 7]=crF11 a b c d:=by cases a <;> cases b <;> cases c <;> cases d <;> rfl
theorem Uf (a c:Bool):zE [zi a 10,zi c 8]=deF11 a c:=by cases a <;> cases c <;> rfl
theorem first11_sh (a b c d:Bool):zE [zi a 10,zi b 4,zi c 8,zi (!d) 12]=shF11 a b c d:=by cases a <;> cases b <;> cases c <;> cases d <;> rfl
theorem first11_di (a c d:Bool):zE [zi a 10,zi c 8,zi (!d) 12]=diF11 a c d:=by cases a <;> cases c <;> cases d <;> rfl
theorem first11_rn (a b c d:Bool):zE [zi a 10,zi b 10,zi c 8,zi (!d) 9]=rnF11 a b c d:=by cases a <;> cases b <;> cases c <;> cases d <;> rfl
theorem Ug (A:zt) (g n:List UInt8):zE [zi (zh g) 10,zi (zh n) 10,zi (zz A n) 8]=yN A g n:=by
 unfold yN
 cases zh g <;> cases zh n <;> cases zz A n <;> rfl
theorem first11_sm (a b c:Bool):zE [zi a 10,zi b 11,zi c 8]=if a then (if b then (if c then 0 else 8) else 11) else 10:=by cases a <;> cases b <;> cases c <;> rfl
theorem vw {n:ByteArray} (h:zh n.data.toList=true):n.size≤1000:=uT h
theorem jR {l:List UInt8} (h:ym l=true):l.length≤1000:=by
 unfold ym at h
 simp only [Bool.and_eq_true,decide_eq_true_eq] at h
 have:=h.1.2
 omega
theorem fC {n:ByteArray} (h:ym n.data.toList=true):n.size≤1000:=by
 have:=jR h
 rwa [zx] at this
section
variable [Fr11] {w0 w:World} {D P M G:Nat} {A:zt} {L:zj} {S:zn} {k:Nat}
theorem fit11_eq (n:Nat):zi (decide ((n:Int)+1≤12)) 7=zi (!decide (12≤n)) 7:=by
 by_cases h:12≤n
 ·
  rw [decide_eq_true h,decide_eq_false (by omega)]; rfl
 ·
  rw [decide_eq_false h,decide_eq_true (by omega)]; rfl
set_option maxRecDepth 100000 in
theorem Vy (n h:ByteArray) (ho:zu w0 w D P M G A L S) (hg:zm A L S k) (hn:n.size≤9223372036854775807) (hh:h.size≤9223372036854775807) :
  Calls Tryz.prog 313 #[.pointer (some ⟨D,0,none⟩),.string n,.string h] w fun e w'=>e=.returned (.int .i64 (QI A n.data.toList h.data.toList))∧zD w0 w D P M G (crA11 A n.data.toList h.data.toList) L S w':=by
 have HN:Hid (∀ W,Below w.heap.size w W→Calls Tryz.prog 159 #[.string n] W fun e w'=>e=.returned (.int .i64 (zi (zh n.data.toList) 10))∧Below W.heap.size W w'):=fun W hb=>zR n W hn
 have HH:Hid (∀ W,Below w.heap.size w W→Calls Tryz.prog 210 #[.string h] W fun e w'=>e=.returned (.int .i64 (zi (ym h.data.toList) 4))∧Below W.heap.size W w'):=fun W hb=>jY h W hh
 have HI:Hid (∀ W,Below w.heap.size w W→Calls Tryz.prog 318 #[.pointer (some ⟨D,0,none⟩),.string n] W fun e w'=>e=.returned (.int .i64 (zi (!zz A n.data.toList) 9))∧Below W.heap.size W w'):=fun W hb=>fg n (ho.later hb) hn
 have HL:Hid (∀ W,Below w.heap.size w W→Calls Tryz.prog 315 #[.pointer (some ⟨D,0,none⟩)] W fun e w'=>e=.returned (.int .i64 ((A.length:Int)))∧Below W.heap.size W w'):=fun W hb=>(Jv (ho.later hb)).mono fun e w' ⟨he,hw⟩=>⟨he,by rw [hw]; exact Below.refl _ _⟩
 have HT:Hid (∀ W,Below w.heap.size w W→Calls Tryz.prog 157 #[.int .i64 ((A.length:Int)+1),.int .i64 12] W fun e w'=>e=.returned (.int .i64 (zi (!decide (12≤A.length)) 7))∧Below W.heap.size W w'):=fun W hb=>(fD _ _ W).mono fun e w' ⟨he,hw⟩=>⟨by rw [he,fit11_eq],by rw [hw]; exact Below.refl _ _⟩
 have HFS:Hid (∀ W:World,Calls Tryz.prog 152 #[.slice (some ⟨W.heap.size,0,none⟩) 4 4] (W.alloc (.cells #[.int .i64 (zi (zh n.data.toList) 10),.int .i64 (zi (ym h.data.toList) 4),.int .i64 (zi (!zz A n.data.toList) 9),.int .i64 (zi (!decide (12≤A.length)) 7)] 54)) fun e w'=>e=.returned (.int .i64 (QI A n.data.toList h.data.toList))∧w'=W.alloc (.cells #[.int .i64 (zi (zh n.data.toList) 10),.int .i64 (zi (ym h.data.toList) 4),.int .i64 (zi (!zz A n.data.toList) 9),.int .i64 (zi (!decide (12≤A.length)) 7)] 54)):=fun W=>by
  have:=vJ W [zi (zh n.data.toList) 10,zi (ym h.data.toList) 4,zi (!zz A n.data.toList) 9,zi (!decide (12≤A.length)) 7] 54 (by simp)
  rw [first11_cr] at this
  exact this
 have HO:=za ho
 have HP:Hid (QI A n.data.toList h.data.toList=0→∀ W,Below w.heap.size w W→Calls Tryz.prog 201 #[.pointer (some ⟨D,0,none⟩),.string n,.agg #[.string h,.bool false]] W fun e w'=>e=.returned (.tuple #[])∧zD w0 w D P M G (yR A n.data.toList (h.data.toList,false)) L S w'):=fun e W hb=>by
  obtain ⟨h1,h2,h3,h4⟩:=crF_zero e
  exact (uQ n h false (ho.later hb) (by have:=hg.few; omega) (vw h1) (fC h2)).mono fun e w' ⟨he,hgo⟩=>⟨he,hgo.ahead hb⟩
 have hm12:(A.length:Int)≤12:=by have:=hg.few; omega
 have hm0:(0:Int)≤(A.length:Int):=by omega
 clear ho hg hn hh
 unfold crA11
 generalize yR A n.data.toList (h.data.toList,false)=A' at *
 generalize QI A n.data.toList h.data.toList=r at *
 generalize zi (zh n.data.toList) 10=e0 at *
 generalize zi (ym h.data.toList) 4=e1 at *
 generalize zi (!zz A n.data.toList) 9=e2 at *
 generalize zi (!decide (12≤A.length)) 7=e3 at *
 generalize (A.length:Int)=m at *
 by_cases h0:r=0
 ·
  subst h0
  rw [if_pos rfl]
  have HP2:=za (HP.out rfl)
  clear HP
  go_enter Tryz.func313,Tryz.ntmps313
  have HB0:Hid (Below w.heap.size w w):=Below.refl _ _
  go_wp2_with fail
  with_reducible refine (HN.out w HB0.out).mono ?_
  rintro e u1 ⟨rfl,hb⟩
  have HB1:=za (z7 HB0.out hb)
  clear hb
  go_wp2_with fail
  with_reducible refine (HH.out u1 HB1.out).mono ?_
  rintro e u2 ⟨rfl,hb⟩
  have HB2:=za (z7 HB1.out hb)
  clear hb
  go_wp2_with fail
  with_reducible refine (HI.out u2 HB2.out).mono ?_
  rintro e u3 ⟨rfl,hb⟩
  have HB3:=za (z7 HB2.out hb)
  clear hb
  go_wp2_with fail
  with_reducible refine (HL.out u3 HB3.out).mono ?_
  rintro e u4 ⟨rfl,hb⟩
  have HB4:=za (z7 HB3.out hb)
  clear hb
  go_wp2_with fail
  with_reducible refine (HT.out u4 HB4.out).mono ?_
  rintro e u5 ⟨rfl,hb⟩
  have HB5:=za (z7 HB4.out hb)
  clear hb
  go_wp2_with fail
  with_reducible refine (HFS.out _).mono ?_
  rintro e ub ⟨rfl,hub⟩
  have HB:Hid (Below w.heap.size w ub):=by
   show Below _ _ _
   rw [hub]; exact zb HB5.out _
  clear hub HFS HB0 HB1 HB2 HB3 HB4 HB5 HN HH HI HL HT
  go_wp2_with fail
  with_reducible refine (HP2.out _ HB.out).mono ?_
  rintro e w5 ⟨rfl,hg⟩
  have HF:=za hg
  clear hg HP2 HB
  go_wp2
  go_ret
  exact ⟨rfl,HF.out⟩
 ·
  rw [if_neg h0]
  clear HP
  have q1:(r == 0)=false:=by simpa using h0
  have q2:¬ r=0:=h0
  go_enter Tryz.func313,Tryz.ntmps313
  have HB0:Hid (Below w.heap.size w w):=Below.refl _ _
  go_wp2_with fail
  with_reducible refine (HN.out w HB0.out).mono ?_
  rintro e u1 ⟨rfl,hb⟩
  have HB1:=za (z7 HB0.out hb)
  clear hb
  go_wp2_with fail
  with_reducible refine (HH.out u1 HB1.out).mono ?_
  rintro e u2 ⟨rfl,hb⟩
  have HB2:=za (z7 HB1.out hb)
  clear hb
  go_wp2_with fail
  with_reducible refine (HI.out u2 HB2.out).mono ?_
  rintro e u3 ⟨rfl,hb⟩
  have HB3:=za (z7 HB2.out hb)
  clear hb
  go_wp2_with fail
  with_reducible refine (HL.out u3 HB3.out).mono ?_
  rintro e u4 ⟨rfl,hb⟩
  have HB4:=za (z7 HB3.out hb)
  clear hb
  go_wp2_with fail
  with_reducible refine (HT.out u4 HB4.out).mono ?_
  rintro e u5 ⟨rfl,hb⟩
  have HB5:=za (z7 HB4.out hb)
  clear hb
  go_wp2_with fail
  with_reducible refine (HFS.out _).mono ?_
  rintro e ub ⟨rfl,hub⟩
  have HB:Hid (Below w.heap.size w ub):=by
   show Below _ _ _
   rw [hub]; exact zb HB5.out _
  clear hub HFS HB0 HB1 HB2 HB3 HB4 HB5 HN HH HI HL HT
  go_wp2
  go_ret
  exact ⟨rfl,HO.out.still HB.out⟩
set_option maxRecDepth 100000 in
theorem YY (n h:ByteArray) (ho:zu w0 w D P M G A L S) (hg:zm A L S k) (hn:n.size≤9223372036854775807) (hh:h.size≤9223372036854775807) :
  Calls Tryz.prog 317 #[.pointer (some ⟨D,0,none⟩),.string n,.string h] w fun e w'=>e=.returned (.int .i64 (UM A n.data.toList h.data.toList))∧zD w0 w D P M G (shA11 A n.data.toList h.data.toList) L S w':=by
 have HN:Hid (∀ W,Below w.heap.size w W→Calls Tryz.prog 159 #[.string n] W fun e w'=>e=.returned (.int .i64 (zi (zh n.data.toList) 10))∧Below W.heap.size W w'):=fun W hb=>zR n W hn
 have HH:Hid (∀ W,Below w.heap.size w W→Calls Tryz.prog 210 #[.string h] W fun e w'=>e=.returned (.int .i64 (zi (ym h.data.toList) 4))∧Below W.heap.size W w'):=fun W hb=>jY h W hh
 have HI:Hid (∀ W,Below w.heap.size w W→Calls Tryz.prog 319 #[.pointer (some ⟨D,0,none⟩),.string n] W fun e w'=>e=.returned (.int .i64 (zi (zz A n.data.toList) 8))∧Below W.heap.size W w'):=fun W hb=>yx n (ho.later hb) hn
 have HL:Hid (∀ W,Below w.heap.size w W→Calls Tryz.prog 326 #[.pointer (some ⟨D,0,none⟩),.string n] W fun e w'=>e=.returned (.int .i64 (zi (!vX A n.data.toList) 12))∧Below W.heap.size W w'):=fun W hb=>Vo n (ho.later hb) hn
 have HFS:Hid (∀ W:World,Calls Tryz.prog 152 #[.slice (some ⟨W.heap.size,0,none⟩) 4 4] (W.alloc (.cells #[.int .i64 (zi (zh n.data.toList) 10),.int .i64 (zi (ym h.data.toList) 4),.int .i64 (zi (zz A n.data.toList) 8),.int .i64 (zi (!vX A n.data.toList) 12)] 54)) fun e w'=>e=.returned (.int .i64 (UM A n.data.toList h.data.toList))∧w'=W.alloc (.cells #[.int .i64 (zi (zh n.data.toList) 10),.int .i64 (zi (ym h.data.toList) 4),.int .i64 (zi (zz A n.data.toList) 8),.int .i64 (zi (!vX A n.data.toList) 12)] 54)):=fun W=>by
  have:=vJ W [zi (zh n.data.toList) 10,zi (ym h.data.toList) 4,zi (zz A n.data.toList) 8,zi (!vX A n.data.toList) 12] 54 (by simp)
  rw [first11_sh] at this
  exact this
 have HO:=za ho
 have HP:Hid (UM A n.data.toList h.data.toList=0→∀ W,Below w.heap.size w W→Calls Tryz.prog 201 #[.pointer (some ⟨D,0,none⟩),.string n,.agg #[.string h,.bool (vX A n.data.toList)]] W fun e w'=>e=.returned (.tuple #[])∧zD w0 w D P M G (yR A n.data.toList (h.data.toList,vX A n.data.toList)) L S w'):=fun e W hb=>by
  obtain ⟨h1,h2,h3,h4⟩:=shF_zero e
  exact (uQ n h _ (ho.later hb) (by have:=hg.few; omega) (vw h1) (fC h2)).mono fun e w' ⟨he,hgo⟩=>⟨he,hgo.ahead hb⟩
 have HK:Hid (∀ W,Below w.heap.size w W→(Instr.lookup 236 (.map (some P)) (.string n) false).run Tryz.prog W=.ok (.agg #[.string (yl (qB A n.data.toList)),.bool (vX A n.data.toList)]) W):=fun W hb=>(ho.later hb).look1 n hn
 have hz:=Zv
 clear ho hg hn hh
 unfold shA11
 generalize yR A n.data.toList (h.data.toList,vX A n.data.toList)=A' at *
 generalize UM A n.data.toList h.data.toList=r at *
 generalize zi (zh n.data.toList) 10=e0 at *
 generalize zi (ym h.data.toList) 4=e1 at *
 generalize zi (zz A n.data.toList) 8=e2 at *
 generalize zi (!vX A n.data.toList) 12=e3 at *
 generalize vX A n.data.toList=dd at *
 generalize yl (qB A n.data.toList)=ss at *
 by_cases h0:r=0
 ·
  subst h0
  rw [if_pos rfl]
  have HP2:=za (HP.out rfl)
  clear HP
  go_enter Tryz.func317,Tryz.ntmps317
  have HB0:Hid (Below w.heap.size w w):=Below.refl _ _
  go_wp2_with fail
  with_reducible refine (HN.out w HB0.out).mono ?_
  rintro e u1 ⟨rfl,hb⟩
  have HB1:=za (z7 HB0.out hb)
  clear hb
  go_wp2_with fail
  with_reducible refine (HH.out u1 HB1.out).mono ?_
  rintro e u2 ⟨rfl,hb⟩
  have HB2:=za (z7 HB1.out hb)
  clear hb
  go_wp2_with fail
  with_reducible refine (HI.out u2 HB2.out).mono ?_
  rintro e u3 ⟨rfl,hb⟩
  have HB3:=za (z7 HB2.out hb)
  clear hb
  go_wp2_with fail
  with_reducible refine (HL.out u3 HB3.out).mono ?_
  rintro e u4 ⟨rfl,hb⟩
  have HB4:=za (z7 HB3.out hb)
  clear hb
  go_wp2_with fail
  with_reducible refine (HFS.out _).mono ?_
  rintro e ub ⟨rfl,hub⟩
  have HB:Hid (Below w.heap.size w ub):=by
   show Below _ _ _
   rw [hub]; exact zb HB4.out _
  clear hub HFS HB0 HB1 HB2 HB3 HB4 HN HH HI HL
  have c0:=(HO.out.later HB.out).c0
  have hk:=HK.out _ HB.out
  have HBA:Hid (Below w.heap.size w (ub.alloc (.cells #[.string h,.bool dd] 283))):=zb HB.out _
  clear HK
  go_wp2_with fail
  with_reducible refine (HP2.out _ HBA.out).mono ?_
  rintro e w5 ⟨rfl,hg⟩
  have HF:=za hg
  clear hg HP2 HB HBA c0 hk
  go_wp2
  go_ret
  exact ⟨rfl,HF.out⟩
 ·
  rw [if_neg h0]
  clear HP HK
  have q1:(r == 0)=false:=by simpa using h0
  have q2:¬ r=0:=h0
  go_enter Tryz.func317,Tryz.ntmps317
  have HB0:Hid (Below w.heap.size w w):=Below.refl _ _
  go_wp2_with fail
  with_reducible refine (HN.out w HB0.out).mono ?_
  rintro e u1 ⟨rfl,hb⟩
  have HB1:=za (z7 HB0.out hb)
  clear hb
  go_wp2_with fail
  with_reducible refine (HH.out u1 HB1.out).mono ?_
  rintro e u2 ⟨rfl,hb⟩
  have HB2:=za (z7 HB1.out hb)
  clear hb
  go_wp2_with fail
  with_reducible refine (HI.out u2 HB2.out).mono ?_
  rintro e u3 ⟨rfl,hb⟩
  have HB3:=za (z7 HB2.out hb)
  clear hb
  go_wp2_with fail
  with_reducible refine (HL.out u3 HB3.out).mono ?_
  rintro e u4 ⟨rfl,hb⟩
  have HB4:=za (z7 HB3.out hb)
  clear hb
  go_wp2_with fail
  with_reducible refine (HFS.out _).mono ?_
  rintro e ub ⟨rfl,hub⟩
  have HB:Hid (Below w.heap.size w ub):=by
   show Below _ _ _
   rw [hub]; exact zb HB4.out _
  clear hub HFS HB0 HB1 HB2 HB3 HB4 HN HH HI HL
  go_wp2
  go_ret
  exact ⟨rfl,HO.out.still HB.out⟩
set_option maxRecDepth 100000 in
theorem jy (n:ByteArray) (is_:Bool) (ho:zu w0 w D P M G A L S) (hg:zm A L S k) (hn:n.size≤9223372036854775807) :
  Calls Tryz.prog 346 #[.pointer (some ⟨D,0,none⟩),.string n,.bool is_] w fun e w'=>e=.returned (.int .i64 (Vt A n.data.toList is_))∧zD w0 w D P M G (diA11 A n.data.toList is_) L S w':=by
 have HN:Hid (∀ W,Below w.heap.size w W→Calls Tryz.prog 159 #[.string n] W fun e w'=>e=.returned (.int .i64 (zi (zh n.data.toList) 10))∧Below W.heap.size W w'):=fun W hb=>zR n W hn
 have HI:Hid (∀ W,Below w.heap.size w W→Calls Tryz.prog 319 #[.pointer (some ⟨D,0,none⟩),.string n] W fun e w'=>e=.returned (.int .i64 (zi (zz A n.data.toList) 8))∧Below W.heap.size W w'):=fun W hb=>yx n (ho.later hb) hn
 have HL:Hid (∀ W,Below w.heap.size w W→Calls Tryz.prog 361 #[.pointer (some ⟨D,0,none⟩),.string n,.bool is_] W fun e w'=>e=.returned (.int .i64 (zi (!(vX A n.data.toList == is_)) 12))∧Below W.heap.size W w'):=fun W hb=>Yt n is_ (ho.later hb) hn
 have HFS:Hid (∀ W:World,Calls Tryz.prog 152 #[.slice (some ⟨W.heap.size,0,none⟩) 3 3] (W.alloc (.cells #[.int .i64 (zi (zh n.data.toList) 10),.int .i64 (zi (zz A n.data.toList) 8),.int .i64 (zi (!(vX A n.data.toList == is_)) 12)] 54)) fun e w'=>e=.returned (.int .i64 (Vt A n.data.toList is_))∧w'=W.alloc (.cells #[.int .i64 (zi (zh n.data.toList) 10),.int .i64 (zi (zz A n.data.toList) 8),.int .i64 (zi (!(vX A n.data.toList == is_)) 12)] 54)):=fun W=>by
  have:=vJ W [zi (zh n.data.toList) 10,zi (zz A n.data.toList) 8,zi (!(vX A n.data.toList == is_)) 12] 54 (by simp)
  rw [first11_di] at this
  exact this
 have HO:=za ho
 have HP:Hid (Vt A n.data.toList is_=0→∀ W,Below w.heap.size w W→Calls Tryz.prog 201 #[.pointer (some ⟨D,0,none⟩),.string n,.agg #[.string (yl (qB A n.data.toList)),.bool is_]] W fun e w'=>e=.returned (.tuple #[])∧zD w0 w D P M G (yR A n.data.toList (qB A n.data.toList,is_)) L S w'):=fun e W hb=>by
  obtain ⟨h1,h3,h4⟩:=diF_zero e
  have:=uQ n (yl (qB A n.data.toList)) is_ (ho.later hb) (by have:=hg.few; omega) (vw h1) (by rw [xT]; exact jR (Xx hg h3))
  rw [zS] at this
  exact this.mono fun e w' ⟨he,hgo⟩=>⟨he,hgo.ahead hb⟩
 have HK:Hid (∀ W,Below w.heap.size w W→(Instr.lookup 236 (.map (some P)) (.string n) false).run Tryz.prog W=.ok (.agg #[.string (yl (qB A n.data.toList)),.bool (vX A n.data.toList)]) W):=fun W hb=>(ho.later hb).look1 n hn
 have hz:=Zv
 clear ho hg hn
 unfold diA11
 generalize yR A n.data.toList (qB A n.data.toList,is_)=A' at *
 generalize Vt A n.data.toList is_=r at *
 generalize zi (zh n.data.toList) 10=e0 at *
 generalize zi (zz A n.data.toList) 8=e2 at *
 generalize zi (!(vX A n.data.toList == is_)) 12=e3 at *
 generalize vX A n.data.toList=dd at *
 generalize yl (qB A n.data.toList)=ss at *
 by_cases h0:r=0
 ·
  subst h0
  rw [if_pos rfl]
  have HP2:=za (HP.out rfl)
  clear HP
  go_enter Tryz.func346,Tryz.ntmps346
  have HB0:Hid (Below w.heap.size w w):=Below.refl _ _
  go_wp2_with fail
  with_reducible refine (HN.out w HB0.out).mono ?_
  rintro e u1 ⟨rfl,hb⟩
  have HB1:=za (z7 HB0.out hb)
  clear hb
  go_wp2_with fail
  with_reducible refine (HI.out u1 HB1.out).mono ?_
  rintro e u2 ⟨rfl,hb⟩
  have HB2:=za (z7 HB1.out hb)
  clear hb
  go_wp2_with fail
  with_reducible refine (HL.out u2 HB2.out).mono ?_
  rintro e u3 ⟨rfl,hb⟩
  have HB3:=za (z7 HB2.out hb)
  clear hb
  go_wp2_with fail
  with_reducible refine (HFS.out _).mono ?_
  rintro e ub ⟨rfl,hub⟩
  have HB:Hid (Below w.heap.size w ub):=by
   show Below _ _ _
   rw [hub]; exact zb HB3.out _
  clear hub HFS HB0 HB1 HB2 HB3 HN HI HL
  have c0:=(HO.out.later HB.out).c0
  have hk:=HK.out _ HB.out
  have HBA:Hid (Below w.heap.size w (ub.alloc (.cells #[.string ss,.bool is_] 283))):=zb HB.out _
  clear HK
  go_wp2_with fail
  with_reducible refine (HP2.out _ HBA.out).mono ?_
  rintro e w5 ⟨rfl,hg⟩
  have HF:=za hg
  clear hg HP2 HB HBA c0 hk
  go_wp2
  go_ret
  exact ⟨rfl,HF.out⟩
 ·
  rw [if_neg h0]
  clear HP HK
  have q1:(r == 0)=false:=by simpa using h0
  have q2:¬ r=0:=h0
  go_enter Tryz.func346,Tryz.ntmps346
  have HB0:Hid (Below w.heap.size w w):=Below.refl _ _
  go_wp2_with fail
  with_reducible refine (HN.out w HB0.out).mono ?_
  rintro e u1 ⟨rfl,hb⟩
  have HB1:=za (z7 HB0.out hb)
  clear hb
  go_wp2_with fail
  with_reducible refine (HI.out u1 HB1.out).mono ?_
  rintro e u2 ⟨rfl,hb⟩
  have HB2:=za (z7 HB1.out hb)
  clear hb
  go_wp2_with fail
  with_reducible refine (HL.out u2 HB2.out).mono ?_
  rintro e u3 ⟨rfl,hb⟩
  have HB3:=za (z7 HB2.out hb)
  clear hb
  go_wp2_with fail
  with_reducible refine (HFS.out _).mono ?_
  rintro e ub ⟨rfl,hub⟩
  have HB:Hid (Below w.heap.size w ub):=by
   show Below _ _ _
   rw [hub]; exact zb HB3.out _
  clear hub HFS HB0 HB1 HB2 HB3 HN HI HL
  go_wp2
  go_ret
  exact ⟨rfl,HO.out.still HB.out⟩
def deA11 (A:zt) (n:List UInt8):zt:=if xR A n=0 then xF A n else A
def deL11 (A:zt) (L:zj) (n:List UInt8):zj:=if xR A n=0 then vq L n else L
def deS11 (A:zt) (S:zn) (n:List UInt8):zn:=if xR A n=0 then qN S n else S
set_option maxRecDepth 100000 in
theorem Vw (n:ByteArray) (ho:zu w0 w D P M G A L S) (hg:zm A L S k) (hn:n.size≤9223372036854775807) :
  Calls Tryz.prog 314 #[.pointer (some ⟨D,0,none⟩),.string n] w fun e w'=>e=.returned (.int .i64 (xR A n.data.toList))∧zD w0 w D P M G (deA11 A n.data.toList) (deL11 A L n.data.toList) (deS11 A S n.data.toList) w':=by
 have HN:Hid (∀ W,Below w.heap.size w W→Calls Tryz.prog 159 #[.string n] W fun e w'=>e=.returned (.int .i64 (zi (zh n.data.toList) 10))∧Below W.heap.size W w'):=fun W hb=>zR n W hn
 have HI:Hid (∀ W,Below w.heap.size w W→Calls Tryz.prog 319 #[.pointer (some ⟨D,0,none⟩),.string n] W fun e w'=>e=.returned (.int .i64 (zi (zz A n.data.toList) 8))∧Below W.heap.size W w'):=fun W hb=>yx n (ho.later hb) hn
 have HFS:Hid (∀ W:World,Calls Tryz.prog 152 #[.slice (some ⟨W.heap.size,0,none⟩) 2 2] (W.alloc (.cells #[.int .i64 (zi (zh n.data.toList) 10),.int .i64 (zi (zz A n.data.toList) 8)] 54)) fun e w'=>e=.returned (.int .i64 (xR A n.data.toList))∧w'=W.alloc (.cells #[.int .i64 (zi (zh n.data.toList) 10),.int .i64 (zi (zz A n.data.toList) 8)] 54)):=fun W=>by
  have:=vJ W [zi (zh n.data.toList) 10,zi (zz A n.data.toList) 8] 54 (by simp)
  rw [Uf] at this
  exact this
 have HO:=za ho
 have HDR:Hid (∀ W ty,Below w.heap.size w W→∃ w',(Builtin.delete_ #[236,9] ty #[.map (some P),.string n]).run Tryz.prog W=.ok (.tuple #[]) w'∧zD w0 w D P M G (xF A n.data.toList) L S w'):=fun W ty hb=>by
  obtain ⟨w',h1,h2⟩:=(ho.later hb).drop n hn ty
  exact ⟨w',h1,h2.ahead hb⟩
 have HMD:Hid (∀ W A1 L1 S1,zu w0 W D P M G A1 L1 S1→Calls Tryz.prog 239 #[.pointer (some ⟨M,0,none⟩),.string n] W fun e w'=>e=.returned (.bool (yF L1 n.data.toList))∧zD w0 W D P M G A1 (vq L1 n.data.toList) S1 w'):=fun W A1 L1 S1 h=>h.mdrop n hn
 have HGR:Hid (∀ W A1 L1,zu w0 W D P M G A1 L1 S→Calls Tryz.prog 320 #[.pointer (some ⟨G,0,none⟩),.string n] W fun e w'=>e=.returned (.int .i64 ((yS S n.data.toList).length:Nat))∧zD w0 W D P M G A1 L1 (qN S n.data.toList) w'):=fun W A1 L1 h=>h.gremove hg.grp n hn
 clear ho hg hn
 unfold deA11 deL11 deS11
 generalize xR A n.data.toList=r at *
 generalize zi (zh n.data.toList) 10=e0 at *
 generalize zi (zz A n.data.toList) 8=e2 at *
 by_cases h0:r=0
 ·
  subst h0
  rw [if_pos rfl,if_pos rfl,if_pos rfl]
  generalize (yS S n.data.toList).length=cnt at *
  generalize qN S n.data.toList=S' at *
  generalize xF A n.data.toList=A' at *
  go_enter Tryz.func314,Tryz.ntmps314
  have HB0:Hid (Below w.heap.size w w):=Below.refl _ _
  go_wp2_with fail
  with_reducible refine (HN.out w HB0.out).mono ?_
  rintro e u1 ⟨rfl,hb⟩
  have HB1:=za (z7 HB0.out hb)
  clear hb
  go_wp2_with fail
  with_reducible refine (HI.out u1 HB1.out).mono ?_
  rintro e u2 ⟨rfl,hb⟩
  have HB2:=za (z7 HB1.out hb)
  clear hb
  go_wp2_with fail
  with_reducible refine (HFS.out _).mono ?_
  rintro e ub ⟨rfl,hub⟩
  have HB:Hid (Below w.heap.size w ub):=by
   show Below _ _ _
   rw [hub]; exact zb HB2.out _
  clear hub HFS HB0 HB1 HB2 HN HI
  have c0:=(HO.out.later HB.out).c0
  have hdr:=fun ty=>HDR.out ub ty HB.out
  obtain ⟨w1,hrun,hgo⟩:=hdr 0
  have HG1:=za hgo
  have c1:=hgo.1.c1
  have HMD1:=za (HMD.out w1 _ _ _ hgo.1)
  clear hdr hgo HDR HMD
  go_wp2_with fail
  with_reducible refine HMD1.out.mono ?_
  rintro e w2 ⟨rfl,hgo⟩
  have HG2:=za (HG1.out.next hgo)
  have c2:=hgo.1.c2
  have HGR1:=za (HGR.out w2 _ _ hgo.1)
  clear hgo HGR HMD1 HG1 c1 c0 hrun
  go_wp2_with fail
  with_reducible refine HGR1.out.mono ?_
  rintro e w3 ⟨rfl,hgo⟩
  have HF:=za (HG2.out.next hgo)
  clear hgo HGR1 HG2 c2
  go_wp2
  go_ret
  exact ⟨rfl,HF.out⟩
 ·
  rw [if_neg h0,if_neg h0,if_neg h0]
  clear HDR HMD HGR
  have q1:(r == 0)=false:=by simpa using h0
  have q2:¬ r=0:=h0
  go_enter Tryz.func314,Tryz.ntmps314
  have HB0:Hid (Below w.heap.size w w):=Below.refl _ _
  go_wp2_with fail
  with_reducible refine (HN.out w HB0.out).mono ?_
  rintro e u1 ⟨rfl,hb⟩
  have HB1:=za (z7 HB0.out hb)
  clear hb
  go_wp2_with fail
  with_reducible refine (HI.out u1 HB1.out).mono ?_
  rintro e u2 ⟨rfl,hb⟩
  have HB2:=za (z7 HB1.out hb)
  clear hb
  go_wp2_with fail
  with_reducible refine (HFS.out _).mono ?_
  rintro e ub ⟨rfl,hub⟩
  have HB:Hid (Below w.heap.size w ub):=by
   show Below _ _ _
   rw [hub]; exact zb HB2.out _
  clear hub HFS HB0 HB1 HB2 HN HI
  go_wp2
  go_ret
  exact ⟨rfl,HO.out.still HB.out⟩
theorem sm11_eq (n m:List UInt8):(zh n=true∧vl m=true∧zz A n=true→jZ A L n m=jn L n m∧V6 A L n m=VU L n m)∧(¬ (zh n=true∧vl m=true∧zz A n=true)→jZ A L n m=(if zh n then (if vl m then (if zz A n then 0 else 8) else 11) else 10)∧V6 A L n m=L):=by
 constructor
 ·
  rintro ⟨h1,h2,h3⟩
  have h4:jn L n m=0∨jn L n m=9:=by
   unfold jn
   rw [if_pos h1]
   by_cases hm:m=[]
   ·
    rw [if_pos hm]; exact .inl rfl
   ·
    have h5:xX m=true:=by unfold vl at h2; rw [decide_eq_false hm,Bool.false_or] at h2; exact h2
    rw [if_neg hm,if_pos h5]
    cases QV L n (zK m)
    ·
     exact .inl rfl
    ·
     exact .inr rfl
  have e1:jZ A L n m=jn L n m:=by
   unfold jZ smF11
   rw [h1,h2,h3]
   rcases h4 with h | h <;> rw [h] <;> rfl
  refine ⟨e1,?_⟩
  unfold V6
  rw [e1]
  by_cases h:jn L n m=0
  ·
   rw [if_pos h]
  ·
   rw [if_neg h]; unfold VU; rw [if_neg h]
 ·
  intro hq
  have e1:jZ A L n m=(if zh n then (if vl m then (if zz A n then 0 else 8) else 11) else 10):=by
   unfold jZ smF11
   revert hq
   cases zh n <;> cases vl m <;> cases zz A n <;> simp
  refine ⟨e1,?_⟩
  unfold V6
  rw [e1,if_neg]
  revert hq
  cases zh n <;> cases vl m <;> cases zz A n <;> simp
set_option maxRecDepth 100000 in
theorem YX (n m:ByteArray) (ho:zu w0 w D P M G A L S) (hl:L.length<100) (h5:vO w) (hn:n.size≤9223372036854775807) (hm:m.size≤9223372036854775807) :
  Calls Tryz.prog 345 #[.pointer (some ⟨D,0,none⟩),.string n,.string m] w fun e w'=>e=.returned (.int .i64 (jZ A L n.data.toList m.data.toList))∧zD w0 w D P M G A (V6 A L n.data.toList m.data.toList) S w':=by
 have HN:Hid (∀ W,Below w.heap.size w W→Calls Tryz.prog 159 #[.string n] W fun e w'=>e=.returned (.int .i64 (zi (zh n.data.toList) 10))∧Below W.heap.size W w'):=fun W hb=>zR n W hn
 have HH:Hid (∀ W,Below w.heap.size w W→Calls Tryz.prog 360 #[.string m] W fun e w'=>e=.returned (.int .i64 (zi (vl m.data.toList) 11))∧Below W.heap.size W w'):=fun W hb=>Vp m W hm (h5.later hb)
 have HI:Hid (∀ W,Below w.heap.size w W→Calls Tryz.prog 319 #[.pointer (some ⟨D,0,none⟩),.string n] W fun e w'=>e=.returned (.int .i64 (zi (zz A n.data.toList) 8))∧Below W.heap.size W w'):=fun W hb=>yx n (ho.later hb) hn
 have HFS:Hid (∀ W:World,Calls Tryz.prog 152 #[.slice (some ⟨W.heap.size,0,none⟩) 3 3] (W.alloc (.cells #[.int .i64 (zi (zh n.data.toList) 10),.int .i64 (zi (vl m.data.toList) 11),.int .i64 (zi (zz A n.data.toList) 8)] 54)) fun e w'=>e=.returned (.int .i64 (if zh n.data.toList then (if vl m.data.toList then (if zz A n.data.toList then 0 else 8) else 11) else 10))∧w'=W.alloc (.cells #[.int .i64 (zi (zh n.data.toList) 10),.int .i64 (zi (vl m.data.toList) 11),.int .i64 (zi (zz A n.data.toList) 8)] 54)):=fun W=>by
  have:=vJ W [zi (zh n.data.toList) 10,zi (vl m.data.toList) 11,zi (zz A n.data.toList) 8] 54 (by simp)
  rw [first11_sm] at this
  exact this
 have HO:=za ho
 have HP:Hid (zh n.data.toList=true→∀ W,Below w.heap.size w W→Calls Tryz.prog 202 #[.pointer (some ⟨D,0,none⟩),.string n,.string m] W fun e w'=>e=.returned (.int .i64 (jn L n.data.toList m.data.toList))∧zD w0 w D P M G A (VU L n.data.toList m.data.toList) S w'):=fun h1 W hb =>
  (jq n m (ho.later hb) hl (h5.later hb) (vw h1) hm).mono fun e w' ⟨he,hgo⟩=>⟨he,hgo.ahead hb⟩
 have HX:Hid ((zh n.data.toList=true∧vl m.data.toList=true∧zz A n.data.toList=true→jZ A L n.data.toList m.data.toList=jn L n.data.toList m.data.toList∧V6 A L n.data.toList m.data.toList=VU L n.data.toList m.data.toList)∧(¬ (zh n.data.toList=true∧vl m.data.toList=true∧zz A n.data.toList=true)→jZ A L n.data.toList m.data.toList=(if zh n.data.toList then (if vl m.data.toList then (if zz A n.data.toList then 0 else 8) else 11) else 10)∧V6 A L n.data.toList m.data.toList=L)):=sm11_eq n.data.toList m.data.toList
 clear ho hl hn hm h5
 by_cases hq:zh n.data.toList=true∧vl m.data.toList=true∧zz A n.data.toList=true
 ·
  obtain ⟨x1,x2⟩:=HX.out.1 hq
  rw [x1,x2]
  have HP2:=za (HP.out hq.1)
  obtain ⟨q1,q2,q3⟩:=hq
  rw [q1,q2,q3] at HFS
  rw [if_pos rfl,if_pos rfl,if_pos rfl] at HFS
  rw [q1] at HN
  rw [q2] at HH
  rw [q3] at HI
  clear HP HX x1 x2 q1 q2 q3
  generalize zi true 10=e0 at *
  generalize zi true 11=e1 at *
  generalize zi true 8=e2 at *
  generalize jn L n.data.toList m.data.toList=r at *
  generalize VU L n.data.toList m.data.toList=L' at *
  go_enter Tryz.func345,Tryz.ntmps345
  have HB0:Hid (Below w.heap.size w w):=Below.refl _ _
  go_wp2_with fail
  with_reducible refine (HN.out w HB0.out).mono ?_
  rintro e u1 ⟨rfl,hb⟩
  have HB1:=za (z7 HB0.out hb)
  clear hb
  go_wp2_with fail
  with_reducible refine (HH.out u1 HB1.out).mono ?_
  rintro e u2 ⟨rfl,hb⟩
  have HB2:=za (z7 HB1.out hb)
  clear hb
  go_wp2_with fail
  with_reducible refine (HI.out u2 HB2.out).mono ?_
  rintro e u3 ⟨rfl,hb⟩
  have HB3:=za (z7 HB2.out hb)
  clear hb
  go_wp2_with fail
  with_reducible refine (HFS.out _).mono ?_
  rintro e ub ⟨rfl,hub⟩
  have HB:Hid (Below w.heap.size w ub):=by
   show Below _ _ _
   rw [hub]; exact zb HB3.out _
  clear hub HFS HB0 HB1 HB2 HB3 HN HH HI
  go_wp2_with fail
  with_reducible refine (HP2.out _ HB.out).mono ?_
  rintro e w5 ⟨rfl,hg⟩
  have HF:=za hg
  clear hg HP2 HB
  go_wp2
  go_ret
  exact ⟨rfl,HF.out⟩
 ·
  obtain ⟨x1,x2⟩:=HX.out.2 hq
  rw [x1,x2]
  have h0:¬ (if zh n.data.toList then (if vl m.data.toList then (if zz A n.data.toList then (0:Int) else 8) else 11) else 10)=0:=by
   revert hq
   cases zh n.data.toList <;> cases vl m.data.toList <;> cases zz A n.data.toList <;> simp
  clear HP HX x1 x2 hq
  generalize (if zh n.data.toList then (if vl m.data.toList then (if zz A n.data.toList then (0:Int) else 8) else 11) else 10)=r at *
  generalize zi (zh n.data.toList) 10=e0 at *
  generalize zi (vl m.data.toList) 11=e1 at *
  generalize zi (zz A n.data.toList) 8=e2 at *
  have q1:(r == 0)=false:=by simpa using h0
  have q2:¬ r=0:=h0
  have q3:(r != 0)=true:=by simpa using h0
  go_enter Tryz.func345,Tryz.ntmps345
  have HB0:Hid (Below w.heap.size w w):=Below.refl _ _
  go_wp2_with fail
  with_reducible refine (HN.out w HB0.out).mono ?_
  rintro e u1 ⟨rfl,hb⟩
  have HB1:=za (z7 HB0.out hb)
  clear hb
  go_wp2_with fail
  with_reducible refine (HH.out u1 HB1.out).mono ?_
  rintro e u2 ⟨rfl,hb⟩
  have HB2:=za (z7 HB1.out hb)
  clear hb
  go_wp2_with fail
  with_reducible refine (HI.out u2 HB2.out).mono ?_
  rintro e u3 ⟨rfl,hb⟩
  have HB3:=za (z7 HB2.out hb)
  clear hb
  go_wp2_with fail
  with_reducible refine (HFS.out _).mono ?_
  rintro e ub ⟨rfl,hub⟩
  have HB:Hid (Below w.heap.size w ub):=by
   show Below _ _ _
   rw [hub]; exact zb HB3.out _
  clear hub HFS HB0 HB1 HB2 HB3 HN HH HI
  go_wp2
  go_ret
  exact ⟨rfl,HO.out.still HB.out⟩
set_option maxRecDepth 100000 in
theorem JH (g n:ByteArray) (ho:zu w0 w D P M G A L S) (hg:zm A L S k) (h9:k≤900) (hz:g.size≤9223372036854775807) (hn:n.size≤9223372036854775807) :
  Calls Tryz.prog 350 #[.pointer (some ⟨D,0,none⟩),.string g,.string n] w fun e w'=>e=.returned (.int .i64 (Ys A S g.data.toList n.data.toList))∧zD w0 w D P M G A L (joS11 A S g.data.toList n.data.toList) w':=by
 have HN:Hid (∀ W,Below w.heap.size w W→Calls Tryz.prog 159 #[.string g] W fun e w'=>e=.returned (.int .i64 (zi (zh g.data.toList) 10))∧Below W.heap.size W w'):=fun W hb=>zR g W hz
 have HH:Hid (∀ W,Below w.heap.size w W→Calls Tryz.prog 159 #[.string n] W fun e w'=>e=.returned (.int .i64 (zi (zh n.data.toList) 10))∧Below W.heap.size W w'):=fun W hb=>zR n W hn
 have HI:Hid (∀ W,Below w.heap.size w W→Calls Tryz.prog 319 #[.pointer (some ⟨D,0,none⟩),.string n] W fun e w'=>e=.returned (.int .i64 (zi (zz A n.data.toList) 8))∧Below W.heap.size W w'):=fun W hb=>yx n (ho.later hb) hn
 have HFS:Hid (∀ W:World,Calls Tryz.prog 152 #[.slice (some ⟨W.heap.size,0,none⟩) 3 3] (W.alloc (.cells #[.int .i64 (zi (zh g.data.toList) 10),.int .i64 (zi (zh n.data.toList) 10),.int .i64 (zi (zz A n.data.toList) 8)] 54)) fun e w'=>e=.returned (.int .i64 (yN A g.data.toList n.data.toList))∧w'=W.alloc (.cells #[.int .i64 (zi (zh g.data.toList) 10),.int .i64 (zi (zh n.data.toList) 10),.int .i64 (zi (zz A n.data.toList) 8)] 54)):=fun W=>by
  have:=vJ W [zi (zh g.data.toList) 10,zi (zh n.data.toList) 10,zi (zz A n.data.toList) 8] 54 (by simp)
  rw [Ug] at this
  exact this
 have HO:=za ho
 have HP:Hid (∀ W,Below w.heap.size w W→Calls Tryz.prog 200 #[.pointer (some ⟨G,0,none⟩),.string g,.string n] W fun e w'=>e=.returned (.int .i64 (qw S g.data.toList n.data.toList))∧zD w0 w D P M G A L (qQ S g.data.toList n.data.toList) w'):=fun W hb =>
  ((ho.later hb).gjoin hg.grp h9 g n hz hn).mono fun e w' ⟨he,hgo⟩=>⟨he,hgo.ahead hb⟩
 clear ho hg h9 hz hn
 unfold Ys joS11
 generalize qw S g.data.toList n.data.toList=x at *
 generalize qQ S g.data.toList n.data.toList=S' at *
 generalize yN A g.data.toList n.data.toList=r at *
 generalize zi (zh g.data.toList) 10=e0 at *
 generalize zi (zh n.data.toList) 10=e1 at *
 generalize zi (zz A n.data.toList) 8=e2 at *
 by_cases h0:r=0
 ·
  subst h0
  rw [if_pos rfl,if_pos rfl]
  go_enter Tryz.func350,Tryz.ntmps350
  have HB0:Hid (Below w.heap.size w w):=Below.refl _ _
  go_wp2_with fail
  with_reducible refine (HN.out w HB0.out).mono ?_
  rintro e u1 ⟨rfl,hb⟩
  have HB1:=za (z7 HB0.out hb)
  clear hb
  go_wp2_with fail
  with_reducible refine (HH.out u1 HB1.out).mono ?_
  rintro e u2 ⟨rfl,hb⟩
  have HB2:=za (z7 HB1.out hb)
  clear hb
  go_wp2_with fail
  with_reducible refine (HI.out u2 HB2.out).mono ?_
  rintro e u3 ⟨rfl,hb⟩
  have HB3:=za (z7 HB2.out hb)
  clear hb
  go_wp2_with fail
  with_reducible refine (HFS.out _).mono ?_
  rintro e ub ⟨rfl,hub⟩
  have HB:Hid (Below w.heap.size w ub):=by
   show Below _ _ _
   rw [hub]; exact zb HB3.out _
  clear hub HFS HB0 HB1 HB2 HB3 HN HH HI
  have c2:=(HO.out.later HB.out).c2
  go_wp2_with fail
  with_reducible refine (HP.out _ HB.out).mono ?_
  rintro e w5 ⟨rfl,hg⟩
  have HF:=za hg
  clear hg HP HB c2
  go_wp2
  go_ret
  exact ⟨rfl,HF.out⟩
 ·
  rw [if_neg h0,if_neg h0]
  clear HP
  have q1:(r == 0)=false:=by simpa using h0
  have q2:¬ r=0:=h0
  have q3:(r != 0)=true:=by simpa using h0
  go_enter Tryz.func350,Tryz.ntmps350
  have HB0:Hid (Below w.heap.size w w):=Below.refl _ _
  go_wp2_with fail
  with_reducible refine (HN.out w HB0.out).mono ?_
  rintro e u1 ⟨rfl,hb⟩
  have HB1:=za (z7 HB0.out hb)
  clear hb
  go_wp2_with fail
  with_reducible refine (HH.out u1 HB1.out).mono ?_
  rintro e u2 ⟨rfl,hb⟩
  have HB2:=za (z7 HB1.out hb)
  clear hb
  go_wp2_with fail
  with_reducible refine (HI.out u2 HB2.out).mono ?_
  rintro e u3 ⟨rfl,hb⟩
  have HB3:=za (z7 HB2.out hb)
  clear hb
  go_wp2_with fail
  with_reducible refine (HFS.out _).mono ?_
  rintro e ub ⟨rfl,hub⟩
  have HB:Hid (Below w.heap.size w ub):=by
   show Below _ _ _
   rw [hub]; exact zb HB3.out _
  clear hub HFS HB0 HB1 HB2 HB3 HN HH HI
  go_wp2
  go_ret
  exact ⟨rfl,HO.out.still HB.out⟩
set_option maxRecDepth 100000 in
theorem Qg (g n:ByteArray) (ho:zu w0 w D P M G A L S) (hz:g.size≤9223372036854775807) (hn:n.size≤9223372036854775807) :
  Calls Tryz.prog 351 #[.pointer (some ⟨D,0,none⟩),.string g,.string n] w fun e w'=>e=.returned (.int .i64 (Yr A S g.data.toList n.data.toList))∧zD w0 w D P M G A L (leS11 A S g.data.toList n.data.toList) w':=by
 have HN:Hid (∀ W,Below w.heap.size w W→Calls Tryz.prog 159 #[.string g] W fun e w'=>e=.returned (.int .i64 (zi (zh g.data.toList) 10))∧Below W.heap.size W w'):=fun W hb=>zR g W hz
 have HH:Hid (∀ W,Below w.heap.size w W→Calls Tryz.prog 159 #[.string n] W fun e w'=>e=.returned (.int .i64 (zi (zh n.data.toList) 10))∧Below W.heap.size W w'):=fun W hb=>zR n W hn
 have HI:Hid (∀ W,Below w.heap.size w W→Calls Tryz.prog 319 #[.pointer (some ⟨D,0,none⟩),.string n] W fun e w'=>e=.returned (.int .i64 (zi (zz A n.data.toList) 8))∧Below W.heap.size W w'):=fun W hb=>yx n (ho.later hb) hn
 have HFS:Hid (∀ W:World,Calls Tryz.prog 152 #[.slice (some ⟨W.heap.size,0,none⟩) 3 3] (W.alloc (.cells #[.int .i64 (zi (zh g.data.toList) 10),.int .i64 (zi (zh n.data.toList) 10),.int .i64 (zi (zz A n.data.toList) 8)] 54)) fun e w'=>e=.returned (.int .i64 (yN A g.data.toList n.data.toList))∧w'=W.alloc (.cells #[.int .i64 (zi (zh g.data.toList) 10),.int .i64 (zi (zh n.data.toList) 10),.int .i64 (zi (zz A n.data.toList) 8)] 54)):=fun W=>by
  have:=vJ W [zi (zh g.data.toList) 10,zi (zh n.data.toList) 10,zi (zz A n.data.toList) 8] 54 (by simp)
  rw [Ug] at this
  exact this
 have HO:=za ho
 have HP:Hid (∀ W,Below w.heap.size w W→Calls Tryz.prog 365 #[.pointer (some ⟨G,0,none⟩),.string g,.string n] W fun e w'=>e=.returned (.int .i64 (ZM S g.data.toList n.data.toList))∧zD w0 w D P M G A L (ZL S g.data.toList n.data.toList) w'):=fun W hb =>
  ((ho.later hb).gleave g n hz hn).mono fun e w' ⟨he,hgo⟩=>⟨he,hgo.ahead hb⟩
 clear ho  hz hn
 unfold Yr leS11
 generalize ZM S g.data.toList n.data.toList=x at *
 generalize ZL S g.data.toList n.data.toList=S' at *
 generalize yN A g.data.toList n.data.toList=r at *
 generalize zi (zh g.data.toList) 10=e0 at *
 generalize zi (zh n.data.toList) 10=e1 at *
 generalize zi (zz A n.data.toList) 8=e2 at *
 by_cases h0:r=0
 ·
  subst h0
  rw [if_pos rfl,if_pos rfl]
  go_enter Tryz.func351,Tryz.ntmps351
  have HB0:Hid (Below w.heap.size w w):=Below.refl _ _
  go_wp2_with fail
  with_reducible refine (HN.out w HB0.out).mono ?_
  rintro e u1 ⟨rfl,hb⟩
  have HB1:=za (z7 HB0.out hb)
  clear hb
  go_wp2_with fail
  with_reducible refine (HH.out u1 HB1.out).mono ?_
  rintro e u2 ⟨rfl,hb⟩
  have HB2:=za (z7 HB1.out hb)
  clear hb
  go_wp2_with fail
  with_reducible refine (HI.out u2 HB2.out).mono ?_
  rintro e u3 ⟨rfl,hb⟩
  have HB3:=za (z7 HB2.out hb)
  clear hb
  go_wp2_with fail
  with_reducible refine (HFS.out _).mono ?_
  rintro e ub ⟨rfl,hub⟩
  have HB:Hid (Below w.heap.size w ub):=by
   show Below _ _ _
   rw [hub]; exact zb HB3.out _
  clear hub HFS HB0 HB1 HB2 HB3 HN HH HI
  have c2:=(HO.out.later HB.out).c2
  go_wp2_with fail
  with_reducible refine (HP.out _ HB.out).mono ?_
  rintro e w5 ⟨rfl,hg⟩
  have HF:=za hg
  clear hg HP HB c2
  go_wp2
  go_ret
  exact ⟨rfl,HF.out⟩
 ·
  rw [if_neg h0,if_neg h0]
  clear HP
  have q1:(r == 0)=false:=by simpa using h0
  have q2:¬ r=0:=h0
  have q3:(r != 0)=true:=by simpa using h0
  go_enter Tryz.func351,Tryz.ntmps351
  have HB0:Hid (Below w.heap.size w w):=Below.refl _ _
  go_wp2_with fail
  with_reducible refine (HN.out w HB0.out).mono ?_
  rintro e u1 ⟨rfl,hb⟩
  have HB1:=za (z7 HB0.out hb)
  clear hb
  go_wp2_with fail
  with_reducible refine (HH.out u1 HB1.out).mono ?_
  rintro e u2 ⟨rfl,hb⟩
  have HB2:=za (z7 HB1.out hb)
  clear hb
  go_wp2_with fail
  with_reducible refine (HI.out u2 HB2.out).mono ?_
  rintro e u3 ⟨rfl,hb⟩
  have HB3:=za (z7 HB2.out hb)
  clear hb
  go_wp2_with fail
  with_reducible refine (HFS.out _).mono ?_
  rintro e ub ⟨rfl,hub⟩
  have HB:Hid (Below w.heap.size w ub):=by
   show Below _ _ _
   rw [hub]; exact zb HB3.out _
  clear hub HFS HB0 HB1 HB2 HB3 HN HH HI
  go_wp2
  go_ret
  exact ⟨rfl,HO.out.still HB.out⟩
set_option maxRecDepth 100000 in
theorem ZJ (g:ByteArray) (ho:zu w0 w D P M G A L S) (hg:zm A L S k) (hz:g.size≤9223372036854775807) :
  Calls Tryz.prog 348 #[.pointer (some ⟨D,0,none⟩),.string g] w fun e w'=>e=.returned (.int .i64 (qv S g.data.toList))∧zD w0 w D P M G A L (jg S g.data.toList) w':=by
 have HP:=za (ho.gmake hg.grp g hz)
 have c2:=ho.c2
 clear ho hz
 generalize qv S g.data.toList=x at *
 generalize jg S g.data.toList=S' at *
 go_enter Tryz.func348,Tryz.ntmps348
 go_wp2_with fail
 with_reducible refine HP.out.mono ?_
 rintro e w5 ⟨rfl,hg⟩
 have HF:=za hg
 clear hg HP c2
 go_wp2
 go_ret
 exact ⟨rfl,HF.out⟩
set_option maxRecDepth 100000 in
theorem ZS (g:ByteArray) (ho:zu w0 w D P M G A L S) (hz:g.size≤9223372036854775807) :
  Calls Tryz.prog 349 #[.pointer (some ⟨D,0,none⟩),.string g] w fun e w'=>e=.returned (.int .i64 (uW S g.data.toList))∧zD w0 w D P M G A L (fF S g.data.toList) w':=by
 have HP:=za (ho.gdrop g hz)
 have c2:=ho.c2
 clear ho hz
 generalize uW S g.data.toList=x at *
 generalize fF S g.data.toList=S' at *
 go_enter Tryz.func349,Tryz.ntmps349
 go_wp2_with fail
 with_reducible refine HP.out.mono ?_
 rintro e w5 ⟨rfl,hg⟩
 have HF:=za hg
 clear hg HP c2
 go_wp2
 go_ret
 exact ⟨rfl,HF.out⟩
end
end Go.Proofs.YteegkoicalbkbaaGreatDoor
namespace Go.Proofs.YteegkoicalbkbaaGreatDoor
open Go.RowKit Go.Maps Go.Sort Go.Shelf
set_option linter.unusedSectionVars false

theorem datV_keys11 {V:Type} (e:V→DataW Unit) (L:yK V):strKeys (uK e L)=zc L:=by
 simp only [uK,strKeys,List.map_map]; rfl
section
variable [Fr11] {w0 w:World} {D P M G:Nat} {A:zt} {L:zj} {S:zn} {k:Nat}
set_option maxRecDepth 100000 in
theorem ff (ho:zu w0 w D P M G A L S) (hr:zJ A) (hf:A.length≤12):Calls Tryz.prog 325 #[.pointer (some ⟨D,0,none⟩)] w (zT (zc A) w):=by
 have eg:∀ args w,(callFunc 333 args).run Tryz.prog w=.ok (.enter 333 args) w:=enters_of Tryz.func333 (by kernel_rfl) rfl
 have bl:Below w.heap.size w (w.alloc (.cells #[.map (some P)] 236)):=zb (Below.refl _ _) _
 have cS:∃ S:List (List UInt8)→Prop,(∀ ss,S ss→ss.Perm (zc A))∧SeqGives Fence.wide 2 Tryz.prog 333 #[.pointer (some ⟨w.heap.size,0,none⟩)] encStr S A.length (w.alloc (.cells #[.map (some P)] 236)):=by
  have ho':=ho
  obtain ⟨p,q,LM,pg,T,hd,_⟩:=ho'
  have hown:=World.ownsMap.alloc hd.acc (.cells #[.map (some P)] 236)
  have h:=AnyZ.keys_gives (ρ:=Tryz.keys11_ren) { Tryz.keys11 with } Fence.wide 2 trivial rfl (by omega) w.heap.size P _ (uK ea11 A) _ (by simp) (by simp) hown
  rw [vK] at h
  exact ⟨_,fun ss h=>by rw [datV_keys11] at h; exact h,h⟩
 obtain ⟨Ss,hS,hseq⟩:=cS
 have HK:Hid (Calls Tryz.prog 330 #[.map (some P)] w fun e w'=>e=.returned (.func (.func 333) #[] #[.pointer (some ⟨w.heap.size,0,none⟩)])∧w'=w.alloc (.cells #[.map (some P)] 236)) :=
  (callsIn_wide (n:=4)).1 (AnyZ.keys_in Tryz.keys11 Fence.wide 4 trivial rfl (some P) w)
 have HSF:=za (fd _ _ Ss A.length _ eg (by omega) (fun ss h=>by rw [(hS ss h).length_eq,xm]; omega) hseq)
 have HSS:Hid (∀ ss,Ss ss→ss.length=A.length∧ss.mergeSort (fun x y=>!(ltOf Lib.compareBytes) y x)=zc A):=fun ss h=>by
  have hp:=hS ss h
  exact ⟨by rw [hp.length_eq,xm],J8 hr.names hp _ (fun x y=>by rw [lt7])⟩
 have hc:=ho.c0
 have BL:=za bl
 clear hseq hS ho bl
 go_enter Tryz.func325,Tryz.ntmps325
 go_wp2_with fail
 with_reducible refine HK.out.mono ?_
 rintro e w1 ⟨rfl,rfl⟩
 go_wp2_with fail
 with_reducible refine HSF.out.mono ?_
 rintro e w2 ⟨v,ss,rfl,hss,hrow,hnil,hb⟩
 obtain ⟨hl,hm⟩:=HSS.out ss hss
 have HF:Hid (zT (zc A) w (.returned v) w2):=by
  rw [hl,hm] at hrow
  refine ⟨v,rfl,?_,z7 BL.out hb⟩
  rw [xm]
  exact zy hrow (by simp)
 clear hss hrow hnil hb hl hm HSS HSF HK hc BL
 go_wp2
 go_ret
 exact HF.out

theorem zerou11 (w:World):(zeroValue 192).run Tryz.prog w=.ok (.agg #[.string ⟨#[]⟩,.string ⟨#[]⟩,.string ⟨#[]⟩,.bool false,.slice none 0 0]) w:=by kernel_rfl
def Zs (A:zt) (L:zj) (S:zn) (n:ByteArray) (w W:World) (v:Value):Prop :=
 ∃ ga gc,v=.agg #[.string n,.string (yl (qB A n.data.toList)),.string (yl (yG L n.data.toList)),.bool (vX A n.data.toList),.slice ga (yS S n.data.toList).length gc]∧W.ownsRow w.heap.size 9 1 (.slice ga (yS S n.data.toList).length gc) (yS S n.data.toList).length ((yS S n.data.toList).map encStr)
def Tld11 (b:Nat) (n s m:ByteArray) (d:Bool) (gs:List (List UInt8)) (w W:World):Prop :=
 ∃ ga gc,ud W b (.string n) (.string s) (.string m) (.bool d) (.slice ga gs.length gc)∧W.ownsRow w.heap.size 9 1 (.slice ga gs.length gc) gs.length (gs.map encStr)∧Below w.heap.size w W
def YTl11 (D G b5:Nat) (n s m:ByteArray) (d:Bool) (gs:List (List UInt8)) (w:World):Nat→Value→World→Prop
 | 0,v,_=>v=.string n
 | 1,v,_=>v=.pointer (some ⟨b5,0,none⟩)
 | 2,v,_=>v=.string s
 | 3,v,_=>v=.string m
 | 4,v,_=>v=.pointer (some ⟨b5,1,none⟩)
 | 5,v,_=>v=.bool d
 | 8,v,_=>v=.pointer (some ⟨D,2,none⟩)
 | 9,v,_=>v=.pointer (some ⟨G,0,none⟩)
 | 10,v,_=>v=.string n
 | 11,v,W=>∃ ga gc,v=.slice ga gs.length gc∧W.ownsRow w.heap.size 9 1 (.slice ga gs.length gc) gs.length (gs.map encStr)
 | 12,v,W=>∃ ga gc,v=.agg #[.string n,.string s,.string m,.bool d,.slice ga gs.length gc]∧W.ownsRow w.heap.size 9 1 (.slice ga gs.length gc) gs.length (gs.map encStr)
 | _,v,_=>v=.pointer (some ⟨D,0,none⟩)
theorem zQ {w w':World} {b:Nat} {e size n:Nat} {v:Value} {xs:List Value} (h:w.ownsRow b e size v n xs) (hb:Below w.heap.size w w'):w'.ownsRow b e size v n xs:=by
 refine ⟨h.1,?_⟩
 rcases h.2 with hn | ⟨g,cap,cur,e1,h0,hg,hr⟩
 ·
  exact .inl hn
 ·
  exact .inr ⟨g,cap,cur,e1,h0,(hb.block g (Array.getElem?_eq_some_iff.1 hg).1).trans hg,hr⟩
theorem YTl11_keep {D G b5:Nat} {n s m:ByteArray} {d:Bool} {gs:List (List UInt8)} {w W W':World} (hb:Below W.heap.size W W') (j:Nat) (u:Value) (h:YTl11 D G b5 n s m d gs w j u W):YTl11 D G b5 n s m d gs w j u W':=by
 match j,h with
 | 0,h=>exact h
 | 1,h=>exact h
 | 2,h=>exact h
 | 3,h=>exact h
 | 4,h=>exact h
 | 5,h=>exact h
 | 6,h=>exact h
 | 7,h=>exact h
 | 8,h=>exact h
 | 9,h=>exact h
 | 10,h=>exact h
 | 11,h =>
  obtain ⟨ga,gc,e,hr⟩:=h
  exact ⟨ga,gc,e,zQ hr hb⟩
 | 12,h =>
  obtain ⟨ga,gc,e,hr⟩:=h
  exact ⟨ga,gc,e,zQ hr hb⟩
 | _+13,h=>exact h
set_option maxRecDepth 100000 in
theorem Y7 (n:ByteArray) (ho:zu w0 w D P M G A L S) (hk:zC S k) (hn:n.size≤9223372036854775807) :
  Calls Tryz.prog 370 #[.pointer (some ⟨D,0,none⟩),.string n] w fun e w'=>∃ v,e=.returned v∧Zs A L S n w w' v∧Below w.heap.size w w':=by
 have HO:=za ho
 have hz:=Zv
 have hzu:=zerou11
 have HLK:Hid (∀ W,Below w.heap.size w W→(Instr.lookup 236 (.map (some P)) (.string n) false).run Tryz.prog W=.ok (.agg #[.string (yl (qB A n.data.toList)),.bool (vX A n.data.toList)]) W):=fun W hb=>(ho.later hb).look1 n hn
 have HOF:Hid (∀ W,Below w.heap.size w W→Calls Tryz.prog 375 #[.pointer (some ⟨M,0,none⟩),.string n] W fun e w'=>e=.returned (.tuple #[.string (yl (yG L n.data.toList)),.bool (yF L n.data.toList)])∧w'=W):=fun W hb=>(ho.later hb).mof n hn
 have HGO:Hid (∀ W,Below w.heap.size w W→Calls Tryz.prog 328 #[.pointer (some ⟨G,0,none⟩),.string n] W (zT (yS S n.data.toList) W)):=fun W hb=>(ho.later hb).gof hk n hn
 unfold Zs
 clear ho hk hn
 generalize yl (qB A n.data.toList)=ss at *
 generalize vX A n.data.toList=dd at *
 generalize yl (yG L n.data.toList)=mm at *
 generalize yF L n.data.toList=hm at *
 generalize yS S n.data.toList=gs at *
 have hb1:Below w.heap.size w (w.alloc (.cells #[.string ⟨#[]⟩,.string ⟨#[]⟩,.string ⟨#[]⟩,.bool false,.slice none 0 0] 192)):=zb (Below.refl _ _) _
 have hb2:Below w.heap.size w ((w.alloc (.cells #[.string ⟨#[]⟩,.string ⟨#[]⟩,.string ⟨#[]⟩,.bool false,.slice none 0 0] 192)).alloc (.cells #[.string ss,.bool dd] 283)):=zb hb1 _
 have hz1:ud (w.alloc (.cells #[.string ⟨#[]⟩,.string ⟨#[]⟩,.string ⟨#[]⟩,.bool false,.slice none 0 0] 192)) w.heap.size (.string ⟨#[]⟩) (.string ⟨#[]⟩) (.string ⟨#[]⟩) (.bool false) (.slice none 0 0):=heap_alloc_new w _
 have HZ:Hid (ud ((w.alloc (.cells #[.string ⟨#[]⟩,.string ⟨#[]⟩,.string ⟨#[]⟩,.bool false,.slice none 0 0] 192)).alloc (.cells #[.string ss,.bool dd] 283)) w.heap.size (.string ⟨#[]⟩) (.string ⟨#[]⟩) (.string ⟨#[]⟩) (.bool false) (.slice none 0 0)):=(Below.heap_alloc _ _ _ (by simp)).trans hz1
 have HA:=za (ac11_new (w.alloc (.cells #[.string ⟨#[]⟩,.string ⟨#[]⟩,.string ⟨#[]⟩,.bool false,.slice none 0 0] 192)) ss dd)
 have c0:=(HO.out.later hb1).c0
 have c1:=(HO.out.later hb2).c1
 have hl:=HLK.out _ hb1
 have HOF1:=za (HOF.out _ hb2)
 have HB2:=za hb2
 clear hb1 hb2 hz1 HOF
 go_enter Tryz.func370,Tryz.ntmps370
 go_wp2_with fail
 with_reducible refine HOF1.out.mono ?_
 rintro e w2 ⟨rfl,hw2⟩
 rw [← hw2] at HZ HA HB2
 have hsz:(w.alloc (.cells #[.string ⟨#[]⟩,.string ⟨#[]⟩,.string ⟨#[]⟩,.bool false,.slice none 0 0] 192)).heap.size=w.heap.size+1:=by simp
 rw [hsz] at HA
 have HLT:=za (HA.out.lt)
 clear hw2 hl HOF1 c0 c1 HLK hsz
 go_wp2_with fail
 have HLT2:Hid (w.heap.size<w2.heap.size):=by have:=HLT.out; show _<_; omega
 have HSO:Hid (∀ W,Below w2.heap.size w2 W→∀ ga gc,W.ownsRow w.heap.size 9 1 (.slice ga gs.length gc) gs.length (gs.map encStr)→Tld11 w.heap.size n ss mm dd gs w (set5 W w.heap.size (.string n) (.string ss) (.string mm) (.bool dd) (.slice ga gs.length gc))):=fun W hb ga gc ho=>by
  have hz:ud W w.heap.size (.string ⟨#[]⟩) (.string ⟨#[]⟩) (.string ⟨#[]⟩) (.bool false) (.slice none 0 0):=(hb.block _ HLT2.out).trans HZ.out
  have ht:zg (fun i=>i=w.heap.size) W (set5 W w.heap.size (.string n) (.string ss) (.string mm) (.bool dd) (.slice ga gs.length gc)):=VQ (zg.refl (fun i=>i=w.heap.size) W) w.heap.size (fun _=>rfl) _ _ _ _ _
  have hbw:=z7 HB2.out hb
  refine ⟨ga,gc,hz.set5 _ _ _ _ _,?_,hbw.trans (ht.below_at hbw.size (fun i e=>by omega))⟩
  refine ⟨ho.1,?_⟩
  rcases ho.2 with hn | ⟨g,cap,cur,e1,h0,hg,hr⟩
  ·
   exact .inl hn
  ·
   have hne:g≠w.heap.size:=fun e=>by
    subst e
    rw [show W.heap[w.heap.size]? = _ from hz] at hg
    injection hg with hg
    injection hg with _ h
    exact absurd h (by decide)
   exact .inr ⟨g,cap,cur,e1,h0,(ht.block g (Array.getElem?_eq_some_iff.1 hg).1 hne).trans hg,hr⟩
 refine zA (by kernel_rfl) 13 (fun W=>Below w2.heap.size w2 W) (fun W=>Tld11 w.heap.size n ss mm dd gs w W) (YTl11 D G (w.heap.size+1) n ss mm dd gs w) (fun _=>True) ?F ?hF (by kernel_rfl) (by kernel_rfl) (by kernel_rfl) (by kernel_rfl) (by decide) (zM (Below.refl _ _)) ?step ?fin
 case hF =>
  intro x
  simp only [List.map_cons,List.map_nil,vb,Act.put,List.setIfInBounds_toArray,List.set_cons_zero,List.set_cons_succ,Nat.zero_add,Nat.reduceAdd]
  exact rfl
 case step =>
  refine ⟨?_,?_,?_,?_,?_,?_,?_,?_,?_,?_,?_,?_,?_,?_,trivial⟩
  ·
   intro x W
   refine ⟨fun _ hW hdep K hK=>?_,(fun h=>absurd h (by decide)),(fun h=>absurd h (by decide))⟩
   clear hdep
   go_simp
   exact hK _ _ rfl hW (fun _ _ h=>h)
  ·
   intro x W
   refine ⟨fun _ hW hdep K hK=>?_,(fun h=>absurd h (by decide)),(fun h=>absurd h (by decide))⟩
   clear hdep
   go_simp
   exact hK _ _ rfl hW (fun _ _ h=>h)
  ·
   intro x W
   refine ⟨fun _ hW hdep K hK=>?_,(fun h=>absurd h (by decide)),(fun h=>absurd h (by decide))⟩
   have h1:x 1=_:=hdep 1 rfl
   have hx:=HA.out.later hW
   have c0:=hx.c0
   clear hdep
   simp only [h1] at hK
   go_simp
   exact hK _ _ rfl hW (fun _ _ h=>h)
  ·
   intro x W
   refine ⟨fun _ hW hdep K hK=>?_,(fun h=>absurd h (by decide)),(fun h=>absurd h (by decide))⟩
   clear hdep
   go_simp
   exact hK _ _ rfl hW (fun _ _ h=>h)
  ·
   intro x W
   refine ⟨fun _ hW hdep K hK=>?_,(fun h=>absurd h (by decide)),(fun h=>absurd h (by decide))⟩
   clear hdep
   go_simp
   exact hK _ _ rfl hW (fun _ _ h=>h)
  ·
   intro x W
   refine ⟨fun _ hW hdep K hK=>?_,(fun h=>absurd h (by decide)),(fun h=>absurd h (by decide))⟩
   have h4:x 4=_:=hdep 4 rfl
   have hx:=HA.out.later hW
   have c1:=hx.c1
   clear hdep
   simp only [h4] at hK
   go_simp
   exact hK _ _ rfl hW (fun _ _ h=>h)
  ·
   intro x W
   refine ⟨fun _ hW hdep K hK=>?_,(fun h=>absurd h (by decide)),(fun h=>absurd h (by decide))⟩
   clear hdep
   go_simp
   exact hK _ _ rfl hW (fun _ _ h=>h)
  ·
   intro x W
   refine ⟨fun _ hW hdep K hK=>?_,(fun h=>absurd h (by decide)),(fun h=>absurd h (by decide))⟩
   have h6:x 6=_:=hdep 6 rfl
   clear hdep
   simp only [h6] at hK
   go_simp
   exact hK _ _ rfl hW (fun _ _ h=>h)
  ·
   intro x W
   refine ⟨fun _ hW hdep K hK=>?_,(fun h=>absurd h (by decide)),(fun h=>absurd h (by decide))⟩
   have h7:x 7=_:=hdep 7 rfl
   clear hdep
   simp only [h7] at hK
   go_simp
   exact hK _ _ rfl hW (fun _ _ h=>h)
  ·
   intro x W
   refine ⟨fun _ hW hdep K hK=>?_,(fun h=>absurd h (by decide)),(fun h=>absurd h (by decide))⟩
   have h8:x 8=_:=hdep 8 rfl
   have c:=(HO.out.later (z7 HB2.out hW)).c2
   clear hdep
   simp only [h8] at hK
   go_simp
   exact hK _ _ rfl hW (fun _ _ h=>h)
  ·
   intro x W
   refine ⟨fun _ hW hdep K hK=>?_,(fun h=>absurd h (by decide)),(fun h=>absurd h (by decide))⟩
   clear hdep
   go_simp
   exact hK _ _ rfl hW (fun _ _ h=>h)
  ·
   intro x W
   refine ⟨fun _ hW hdep K hK=>?_,(fun h=>absurd h (by decide)),(fun h=>absurd h (by decide))⟩
   have h9:x 9=_:=hdep 9 rfl
   have h10:x 10=_:=hdep 10 rfl
   have hc:=HGO.out W (z7 HB2.out hW)
   clear hdep
   simp only [h9,h10] at hK
   go_simp
   refine hc.mono ?_
   rintro e W' ⟨v,rfl,hr,hb⟩
   obtain ⟨ga,gc,rfl⟩:=xG hr
   exact hK _ _ ⟨ga,gc,rfl,zy hr (z7 HB2.out hW).size⟩ (z7 hW hb) (fun j u h=>YTl11_keep hb j u h)
  ·
   intro x W
   refine ⟨fun _ hW hdep K hK=>?_,(fun h=>absurd h (by decide)),(fun h=>absurd h (by decide))⟩
   have h0:x 0=_:=hdep 0 rfl
   have h2:x 2=_:=hdep 2 rfl
   have h3:x 3=_:=hdep 3 rfl
   have h5:x 5=_:=hdep 5 rfl
   have hA:∃ ga gc,x 11=.slice ga gs.length gc∧W.ownsRow w.heap.size 9 1 (.slice ga gs.length gc) gs.length (gs.map encStr):=hdep 11 rfl
   obtain ⟨ga,gc,h11,hr⟩:=hA
   simp only [h11] at hK
   clear hdep
   simp only [h0,h2,h3,h5] at hK
   go_simp
   exact hK _ _ ⟨ga,gc,rfl,hr⟩ hW (fun _ _ h=>h)
  ·
   intro x W
   refine ⟨(fun h=>absurd h (by decide)),fun _ hW hdep K hK=>?_,(fun h=>absurd h (by decide))⟩
   have hA:∃ ga gc,x 12=.agg #[.string n,.string ss,.string mm,.bool dd,.slice ga gs.length gc]∧W.ownsRow w.heap.size 9 1 (.slice ga gs.length gc) gs.length (gs.map encStr):=hdep 12 rfl
   obtain ⟨ga,gc,h12,hr⟩:=hA
   simp only [h12] at hK
   have hz:ud W w.heap.size (.string ⟨#[]⟩) (.string ⟨#[]⟩) (.string ⟨#[]⟩) (.bool false) (.slice none 0 0):=(hW.block _ HLT2.out).trans HZ.out
   have f1:=hz.free
   have q0:=HSO.out W hW ga gc hr
   have r0:_=some (.string ⟨#[]⟩:Value):=hz.at_ 0
   have r1:_=some (.string ⟨#[]⟩:Value):=hz.at_ 1
   have r2:_=some (.string ⟨#[]⟩:Value):=hz.at_ 2
   have r3:_=some (.bool false:Value):=hz.at_ 3
   have r4:_=some (.slice none 0 0:Value):=hz.at_ 4
   clear hz
   clear hdep
   go_simp
   exact hK undef _ trivial q0
 case fin =>
  intro x W hW _
  obtain ⟨ga,gc,hz,hr,hb⟩:=hW
  have HR:=za hr
  have HBB:=za hb
  have q0:_=some (.string n:Value):=hz.at_ 0
  have q1:_=some (.string ss:Value):=hz.at_ 1
  have q2:_=some (.string mm:Value):=hz.at_ 2
  have q3:_=some (.bool dd:Value):=hz.at_ 3
  have q4:_=some (.slice ga gs.length gc:Value):=hz.at_ 4
  clear hr hb hz HSO HZ HA HB2 HGO HO HLT HLT2
  go_wp2_with fail
  refine bodyPost_ret (v:=.agg #[.string n,.string ss,.string mm,.bool dd,.slice ga gs.length gc]) ?_ rfl ⟨_,rfl,⟨ga,gc,rfl,HR.out⟩,HBB.out⟩
  simp [results,Tryz.results370,go_sem,q0,q1,q2,q3,q4]
end

set_option maxRecDepth 100000 in
theorem Ju (w:World):Calls Tryz.prog 151 #[] w fun e w'=>∃ D P M G,e=.returned (.pointer (some ⟨D,0,none⟩))∧zu w w' D P M G [] [] []:=by
 have HM:Hid (∀ W,Calls Tryz.prog 193 #[] W fun e w'=>e=.returned (.pointer (some ⟨W.heap.size,0,none⟩))∧w'=W.alloc (.cells #[.map none,.map none] 290)):=fun W=>new9_calls W
 have HG:Hid (∀ W,Calls Tryz.prog 194 #[] W fun e w'=>e=.returned (.pointer (some ⟨W.heap.size,0,none⟩))∧w'=W.alloc (.cells #[.map none] 278)):=fun W=>new10_calls W
 have hmm:=@run_makeMap Tryz.prog
 have a1:=accs11_made w
 have hb1:=zb (Below.refl w.heap.size w) (.map #[] 0)
 have s1:(w.alloc (.map #[] 0)).heap.size=w.heap.size+1:=by simp
 generalize hw1:w.alloc (.map #[] 0)=w1 at *
 have a2:=idx9_new w1
 have hb2:=zb (Below.refl w1.heap.size w1) (.cells #[.map none,.map none] 290)
 have s2:(w1.alloc (.cells #[.map none,.map none] 290)).heap.size=w1.heap.size+1:=by simp
 generalize hw2:w1.alloc (.cells #[.map none,.map none] 290)=w2 at *
 have a3:=grp10_new w2
 have hb3:=zb (Below.refl w2.heap.size w2) (.cells #[.map none] 278)
 have s3:(w2.alloc (.cells #[.map none] 278)).heap.size=w2.heap.size+1:=by simp
 generalize hw3:w2.alloc (.cells #[.map none] 278)=w3 at *
 have hb4:=zb (Below.refl w3.heap.size w3) (.cells #[.map (some w.heap.size),.pointer (some ⟨w1.heap.size,0,none⟩),.pointer (some ⟨w2.heap.size,0,none⟩)] 240)
 have a4:=heap_alloc_new w3 (.cells #[.map (some w.heap.size),.pointer (some ⟨w1.heap.size,0,none⟩),.pointer (some ⟨w2.heap.size,0,none⟩)] 240)
 have HF:Hid (zu w (w3.alloc (.cells #[.map (some w.heap.size),.pointer (some ⟨w1.heap.size,0,none⟩),.pointer (some ⟨w2.heap.size,0,none⟩)] 240)) w3.heap.size w.heap.size w1.heap.size w2.heap.size [] [] []):=by
  have hb24:=z7 (z7 hb2 hb3) hb4
  have hb34:=z7 hb3 hb4
  refine ⟨none,none,[],none,[],⟨a4,a1.kept (hb24.block _ (by omega)),a2.later hb34,a3.later hb4,?_,?_,?_⟩,rfl,fun i hi=>⟨?_,id⟩,z7 (z7 (z7 hb1 hb2) hb3) hb4,Nat.zero_le _,fun _ h=>h.elim⟩
  ·
   rintro i (rfl | h | h)
   ·
    omega
   ·
    cases h
   ·
    cases h
  ·
   rintro i (rfl | h | ⟨x,h,_⟩)
   ·
    omega
   ·
    cases h
   ·
    cases h
  ·
   rintro i (rfl | h | h) (h' | h' | ⟨x,h',_⟩)
   ·
    omega
   all_goals first | cases h | cases h'
  ·
   revert hi
   rintro (rfl | rfl | h | h)
   ·
    omega
   ·
    omega
   ·
    rcases h with rfl | h | h
    ·
     omega
    ·
     cases h
    ·
     cases h
   ·
    rcases h with rfl | h | ⟨x,h,_⟩
    ·
     omega
    ·
     cases h
    ·
     cases h
 clear a1 a2 a3 a4 hb1 hb2 hb3 hb4 s1 s2 s3
 go_enter Tryz.func151,Tryz.ntmps151
 go_wp2_with fail
 with_reducible refine (HM.out _).mono ?_
 rintro e u2 ⟨rfl,hu2⟩
 go_wp2_with fail
 with_reducible refine (HG.out _).mono ?_
 rintro e u3 ⟨rfl,hu3⟩
 try rw [hw1] at hu2
 try rw [hw2] at hu2
 try subst hu2
 try rw [hw3] at hu3
 subst hu3
 clear HM HG hmm hw1 hw2 hw3
 go_wp2
 go_ret
 exact ⟨_,_,_,_,rfl,HF.out⟩
end Go.Proofs.YteegkoicalbkbaaGreatDoor
namespace Go.Proofs.YteegkoicalbkbaaGreatDoor
open Go.RowKit Go.Maps Go.Sort Go.Shelf
set_option linter.unusedVariables false

def Yz (w:World) (v:Value) (ls:List (List UInt8)):Prop:=∃ A c,v=.slice A ls.length c∧∀ j (h:j<ls.length),∃ g,A=some ⟨g,0,none⟩∧w.cell? ⟨g,j,none⟩=some (.string (yl ls[j]))
theorem Yz.later {w w':World} {v:Value} {ls:List (List UInt8)} (h:Yz w v ls) (hb:Below w.heap.size w w'):Yz w' v ls:=by
 obtain ⟨A,c,e,hc⟩:=h
 exact ⟨A,c,e,fun j hj=>by obtain ⟨g,e,h⟩:=hc j hj; exact ⟨g,e,(hb.cell (p:=⟨g,j,none⟩) (World.block_lt_of_cell? w _ h)).trans h⟩⟩
theorem Yz.nil (w:World):Yz w (.slice none 0 0) []:=⟨none,0,rfl,fun _ h=>absurd h (Nat.not_lt_zero _)⟩
theorem Yz.of_own {w:World} {base:Nat} {e:TypeId} {v:Value} {ls:List (List UInt8)} (h:w.ownsRow base e 1 v ls.length (ls.map encStr)):Yz w v ls:=by
 obtain ⟨A,c,rfl⟩:∃ A c,v=.slice A ls.length c:=by
  rcases h.2 with ⟨rfl,h0⟩ | ⟨g,cap,cur,rfl,_⟩
  ·
   exact ⟨none,0,by rw [h0]⟩
  ·
   exact ⟨_,_,rfl⟩
 refine ⟨A,c,rfl,fun j hj=>?_⟩
 rcases h.2 with ⟨_,h0⟩ | ⟨g,cap,cur,e1,_⟩
 ·
  omega
 ·
  injection e1 with e1
  subst e1
  refine ⟨g,rfl,?_⟩
  have:=h.cells (g:=g) rfl j (encStr ls[j]) (by simp [hj])
  rw [Addr.add_lit,Nat.zero_add] at this
  exact this

set_option maxRecDepth 100000 in
theorem Z8 (C:Nat) (pre s:ByteArray) (w:World) (hc:w.cell? ⟨C,0,none⟩=some (.string pre)) :
  Calls Tryz.prog 322 #[.string s,.pointer (some ⟨C,0,none⟩)] w fun e w'=>e=.returned (.bool (!Lib.hasPrefix s.data.toList pre.data.toList))∧w'=w:=by
 have hnot:∀ (x:Bool) (w:World),(Op.unary .not (.bool x)).run Tryz.prog w=.ok (.bool (!x)) w:=fun _ _=>rfl
 have HC:=za (Tryz.strings_HasPrefix s pre w)
 generalize Lib.hasPrefix s.data.toList pre.data.toList=r at *
 go_enter Tryz.func322,Tryz.ntmps322
 go_wp2_with fail
 with_reducible refine HC.out.mono ?_
 rintro e w1 ⟨rfl,rfl⟩
 clear HC hc
 cases r <;> go_wp2 <;> go_ret <;> exact ⟨rfl,rfl⟩

set_option maxRecDepth 100000 in
theorem Vu (fv:Value) (c:Nat) (w:World) (hfv:∃ g lb,fv=.func (.func g) #[] lb):Calls Tryz.prog 324 #[.slice none 0 c,fv] w fun e w'=>e=.returned (.slice none 0 c)∧w'=w:=by
 obtain ⟨g,lb,rfl⟩:=hfv
 have HI:=za (Tryz.slices_IndexFunc_empty_f238 (α:=List UInt8) none c (.func (.func g) #[] lb) w)
 go_enter Tryz.func324,Tryz.ntmps324
 go_wp2_with (go_at_call 238; (with_reducible refine HI.out.mono ?_); rintro e w' ⟨rfl,rfl⟩)
 go_ret
 exact ⟨rfl,rfl⟩

def jz (ls:List (List UInt8)) (pre:List UInt8):List (List UInt8):=ls.filter fun x=>Lib.hasPrefix x pre

theorem Fh (base C:Nat) (v:Value) (ls:List (List UInt8)) (pre:ByteArray) (w:World) (hc:w.cell? ⟨C,0,none⟩=some (.string pre)) (hC:C<base) (hbase:base≤w.heap.size) (hv:w.ownsRow base 9 1 v ls.length (ls.map encStr)) :
  Calls Tryz.prog 324 #[v,.func (.func 322) #[] #[.pointer (some ⟨C,0,none⟩)]] w fun e w'=>∃ v',e=.returned v'∧Yz w' v' (jz ls pre.data.toList)∧Below base w w':=by
 rcases hv.2 with ⟨rfl,h0⟩ | ⟨gb,cap,cur,rfl,hbg,hgb,r1,r2,r3,r4⟩
 ·
  obtain rfl:ls=[]:=List.eq_nil_of_length_eq_zero h0
  exact (Vu _ 0 w ⟨_,_,rfl⟩).mono fun e w' ⟨he,hw⟩=>⟨_,he,Yz.nil _,by rw [hw]; exact Below.refl _ _⟩
 ·
  have hH:Holds encStr w gb 0 ls.toArray:=holds_of_block hgb (by simpa using r4)
  have hgl:gb<w.heap.size:=(Array.getElem?_eq_some_iff.1 hgb).1
  have hpa:PredAt Tryz.prog 322 #[.pointer (some ⟨C,0,none⟩)] encStr (fun x=>!Lib.hasPrefix x pre.data.toList) w:=fun W x hb =>
   (Z8 C pre ⟨x.toArray⟩ W ((hb.cell (p:=⟨C,0,none⟩) (by show C<_; omega)).trans hc)).mono fun e w' ⟨he,hw⟩=>⟨he,0,hw⟩
  have hpo:PredOver Tryz.prog 322 #[.pointer (some ⟨C,0,none⟩)] encStr (fun x=>!Lib.hasPrefix x pre.data.toList) gb 0 ls.toArray.size w:=fun n os dk x _ =>
   (Z8 C pre ⟨x.toArray⟩ _ (by
    unfold sortWorld
    rw [cell?_grow _ _ _ (by show C<(putRow _ _ _ _ _).heap.size; rw [size_putRow]; show C<w.heap.size; omega),cell?_putRow_other _ _ gb 0 _ _ (Or.inl (by show C≠gb; omega))]
    exact hc)).mono fun e w' ⟨he,hw⟩=>⟨he,0,hw⟩
  have hm:maxLen=9223372036854775807:=rfl
  have hd:=Tryz.slices_DeleteFunc encStr (fun _=>rfl) (fun x=>!Lib.hasPrefix x pre.data.toList) _ _ (enters_of Tryz.func322 (by kernel_rfl) rfl) [] (fun w=>Ux w) gb 0 cap ls.toArray w hpa hpo hH (by simp; omega) (by simpa using r1)
  have e1:(ls.toArray.toList.filter fun x=>!(fun x=>!Lib.hasPrefix x pre.data.toList) x)=jz ls pre.data.toList:=by simp [jz]
  rw [e1] at hd
  have hls:(jz ls pre.data.toList).length≤ls.length:=List.length_filter_le _ _
  generalize jz ls pre.data.toList=r at *
  refine (show Calls _ _ #[.slice (some ⟨gb,0,none⟩) ls.toArray.size cap,_] _ _ from hd.mono ?_)
  rintro e w' ⟨rfl,q,rfl⟩
  refine ⟨_,rfl,⟨_,_,rfl,fun j hj=>⟨gb,rfl,?_⟩⟩,?_⟩
  ·
   have:=cell?_putRow encStr (Sort.ahead w q) gb 0 ls.toArray (r++List.replicate (ls.toArray.size - r.length) []).toArray (holds_ahead _ _ _ _ _ _ hH) (by simp; omega) j (by simp; omega)
   rw [Nat.zero_add] at this
   rw [this,getElem!_pos _ j (by simp; omega)]
   simp [List.getElem_append_left hj,yl,encStr]
  ·
   have hg:=grownBy_sorted (w:=w) (g:=gb) (n:=q) (os:=#[]) (r++List.replicate (ls.toArray.size - r.length) []).toArray
   rw [grow_empty] at hg
   exact (Below.refl base w).grown hg hbase (fun k hk=>by cases hk; exact hbg)



def Qf (N:List (List UInt8)) (pre:List UInt8):List (List UInt8):=if uE pre then jz N pre else []
section
variable {w0 w:World} {D P M G:Nat} {A:zt} {L:zj} {S:zn}
set_option maxRecDepth 100000 in
theorem Q3 (pre:ByteArray) (ho:zu w0 w D P M G A L S) (hri:zJ A) (hf:A.length≤12) (hp:pre.size≤9223372036854775807) :
  Calls Tryz.prog 316 #[.pointer (some ⟨D,0,none⟩),.string pre] w fun e w'=>∃ v,e=.returned (.tuple #[v,.int .i64 (zi (uE pre.data.toList) 10)])∧Yz w' v (Qf (zc A) pre.data.toList)∧Below w.heap.size w w':=by
 have hmf:=mkf
 have bl:=zb (Below.refl w.heap.size w) (.cells #[.string pre] 9)
 have HP:=za (Yn pre (w.alloc (.cells #[.string pre] 9)) hp)
 have HX:Hid ((w.alloc (.cells #[.string pre] 9)).cell? ⟨w.heap.size,0,none⟩=some (.string pre)):=by show _=_; simp
 have HBL:=za bl
 have HNM:Hid (∀ W,Below (w.alloc (.cells #[.string pre] 9)).heap.size (w.alloc (.cells #[.string pre] 9)) W→Calls Tryz.prog 325 #[.pointer (some ⟨D,0,none⟩)] W (zT (zc A) W)):=fun W hb=>ff (ho.later (z7 bl hb)) hri hf
 have hlt:w.heap.size<(w.alloc (.cells #[.string pre] 9)).heap.size:=by simp
 clear ho bl hri hf
 generalize zc A=NN at *
 have HLY:Hid (uE pre.data.toList=true→Qf NN pre.data.toList=jz NN pre.data.toList):=fun h=>by show _=_; unfold Qf; rw [if_pos h]
 have HLN:Hid (uE pre.data.toList=false→Qf NN pre.data.toList=[]):=fun h=>by show _=_; unfold Qf; rw [if_neg (by rw [h]; decide)]
 generalize Qf NN pre.data.toList=LL at *
 generalize uE pre.data.toList=bp at *
 go_enter Tryz.func316,Tryz.ntmps316
 cases bp with
 | false =>
  obtain rfl:=HLN.out rfl
  have HP0:Hid (Calls Tryz.prog 321 #[.string pre] (w.alloc (.cells #[.string pre] 9)) (yz 10 (w.alloc (.cells #[.string pre] 9)))):=HP.out
  clear HP
  go_wp2_with fail
  with_reducible refine HP0.out.mono ?_
  rintro e w2 ⟨rfl,hb⟩
  have HB2:=za (z7 HBL.out hb)
  clear hb HP0
  go_wp2
  go_ret2
  exact ⟨_,rfl,Yz.nil _,HB2.out⟩
 | true =>
  obtain rfl:=HLY.out rfl
  have HP0:Hid (Calls Tryz.prog 321 #[.string pre] (w.alloc (.cells #[.string pre] 9)) (yz 0 (w.alloc (.cells #[.string pre] 9)))):=HP.out
  clear HP
  go_wp2_with fail
  generalize w.alloc (.cells #[.string pre] 9)=w1 at *
  generalize hC:w.heap.size=C at *
  with_reducible refine HP0.out.mono ?_
  rintro e w3 ⟨rfl,hb⟩
  have HB3:=za hb
  have HN:=za (HNM.out w3 hb)
  clear hb HP0 HNM
  go_wp2_with fail
  with_reducible refine HN.out.mono ?_
  rintro e w4 ⟨v,rfl,hrow,hb⟩
  obtain ⟨A4,c4,rfl,_⟩:=Yz.of_own hrow
  have hd2:=Fh w3.heap.size C _ NN pre w4 (((z7 HB3.out hb).cell (p:=⟨C,0,none⟩) hlt).trans HX.out) (Nat.lt_of_lt_of_le hlt HB3.out.size) hb.size hrow
  have HD2:=za hd2
  have HB34:=za hb
  clear hb hrow HN hd2
  go_wp2_with fail
  with_reducible refine HD2.out.mono ?_
  rintro e w5 ⟨v',rfl,hv',hb⟩
  have HV:=za hv'
  have HB5:=za (show Below w.heap.size w w5 by subst hC; exact z7 HBL.out (HB3.out.trans ((HB34.out.trans hb).mono (HB3.out.size))))
  obtain ⟨A',c',rfl,hvx⟩:=hv'
  clear hb HD2 hvx
  subst hC
  generalize hbl:List.length (jz NN pre.data.toList)=nb at *
  go_wp2
  go_ret2
  exact ⟨_,rfl,(show Hid _ from HV).out,HB5.out⟩
end
end Go.Proofs.YteegkoicalbkbaaGreatDoor
namespace Go.Proofs.YteegkoicalbkbaaGreatDoor
open Go.RowKit Go.Maps Go.Sort Go.Shelf

def vj:List Us→Int
 | []=>0
 | u::r=>if uI 2 u=0 then vj r else uI 2 u
def Xb (l:List Us):Int:=xP [vj l,zi (zZ (l.map (·.nm))) 9,zi (decide ((l.length:Int)≤12)) 7]

end Go.Proofs.YteegkoicalbkbaaGreatDoor
namespace Go.Proofs.YteegkoicalbkbaaGreatDoor
open Go.RowKit Go.Maps
set_option linter.unusedSectionVars false

def YRn11 (D M:Nat) (o n:ByteArray):Nat→Value→Prop
 | 2,v=>v=.pointer (some ⟨D,1,none⟩)
 | 3,v=>v=.pointer (some ⟨M,0,none⟩)
 | 4,v=>v=.string o
 | 5,v=>v=.string n
 | 6,v=>v=.string n
 | _,v=>v=.pointer (some ⟨D,0,none⟩)
def YRnW11 (D M:Nat) (o n:ByteArray) (j:Nat) (v:Value) (_:World):Prop:=YRn11 D M o n j v
section
variable [Fr11] {w0 w:World} {D P M G:Nat} {A:zt} {L:zj} {S:zn} {k:Nat}
set_option maxRecDepth 100000 in
theorem Va (o n:ByteArray) (ho:zu w0 w D P M G A L S) (hg:zm A L S k) (h9:k≤900) (hz:o.size≤9223372036854775807) (hn:n.size≤9223372036854775807) :
  Calls Tryz.prog 347 #[.pointer (some ⟨D,0,none⟩),.string o,.string n] w fun e w'=>e=.returned (.int .i64 (fX A o.data.toList n.data.toList))∧zD w0 w D P M G (rnA11 A o.data.toList n.data.toList) (rnL11 A L o.data.toList n.data.toList) (rnS11 A S o.data.toList n.data.toList) w':=by
 have HN:Hid (∀ W,Below w.heap.size w W→Calls Tryz.prog 159 #[.string o] W fun e w'=>e=.returned (.int .i64 (zi (zh o.data.toList) 10))∧Below W.heap.size W w'):=fun W hb=>zR o W hz
 have HH:Hid (∀ W,Below w.heap.size w W→Calls Tryz.prog 159 #[.string n] W fun e w'=>e=.returned (.int .i64 (zi (zh n.data.toList) 10))∧Below W.heap.size W w'):=fun W hb=>zR n W hn
 have HI:Hid (∀ W,Below w.heap.size w W→Calls Tryz.prog 319 #[.pointer (some ⟨D,0,none⟩),.string o] W fun e w'=>e=.returned (.int .i64 (zi (zz A o.data.toList) 8))∧Below W.heap.size W w'):=fun W hb=>yx o (ho.later hb) hz
 have HL:Hid (∀ W,Below w.heap.size w W→Calls Tryz.prog 318 #[.pointer (some ⟨D,0,none⟩),.string n] W fun e w'=>e=.returned (.int .i64 (zi (!zz A n.data.toList) 9))∧Below W.heap.size W w'):=fun W hb=>fg n (ho.later hb) hn
 have HFS:Hid (∀ W:World,Calls Tryz.prog 152 #[.slice (some ⟨W.heap.size,0,none⟩) 4 4] (W.alloc (.cells #[.int .i64 (zi (zh o.data.toList) 10),.int .i64 (zi (zh n.data.toList) 10),.int .i64 (zi (zz A o.data.toList) 8),.int .i64 (zi (!zz A n.data.toList) 9)] 54)) fun e w'=>e=.returned (.int .i64 (fX A o.data.toList n.data.toList))∧w'=W.alloc (.cells #[.int .i64 (zi (zh o.data.toList) 10),.int .i64 (zi (zh n.data.toList) 10),.int .i64 (zi (zz A o.data.toList) 8),.int .i64 (zi (!zz A n.data.toList) 9)] 54)):=fun W=>by
  have:=vJ W [zi (zh o.data.toList) 10,zi (zh n.data.toList) 10,zi (zz A o.data.toList) 8,zi (!zz A n.data.toList) 9] 54 (by simp)
  rw [first11_rn] at this
  exact this
 have HO:=za ho
 have HPT:Hid (fX A o.data.toList n.data.toList=0→∀ W,Below w.heap.size w W→Calls Tryz.prog 201 #[.pointer (some ⟨D,0,none⟩),.string n,.agg #[.string (yl (qB A o.data.toList)),.bool (vX A o.data.toList)]] W fun e w'=>e=.returned (.tuple #[])∧zD w0 w D P M G (yR A n.data.toList (qB A o.data.toList,vX A o.data.toList)) L S w'):=fun e W hb=>by
  obtain ⟨h1,h2,h3,h4⟩:=UN e
  have:=uQ n (yl (qB A o.data.toList)) (vX A o.data.toList) (ho.later hb) (by have:=hg.few; omega) (vw h2) (by rw [xT]; exact jR (Xx hg h3))
  rw [zS] at this
  exact this.mono fun e w' ⟨he,hgo⟩=>⟨he,hgo.ahead hb⟩
 have HK:Hid (∀ W,Below w.heap.size w W→(Instr.lookup 236 (.map (some P)) (.string o) false).run Tryz.prog W=.ok (.agg #[.string (yl (qB A o.data.toList)),.bool (vX A o.data.toList)]) W):=fun W hb=>(ho.later hb).look1 o hz
 have HDR:Hid (∀ W ty A1,zu w0 W D P M G A1 L S→∃ w',(Builtin.delete_ #[236,9] ty #[.map (some P),.string o]).run Tryz.prog W=.ok (.tuple #[]) w'∧zD w0 W D P M G (xF A1 o.data.toList) L S w'):=fun W ty A1 h=>h.drop o hz ty
 have HMR:Hid (∀ W A1 L1 S1,zu w0 W D P M G A1 L1 S1→Calls Tryz.prog 362 #[.pointer (some ⟨M,0,none⟩),.string o,.string n] W fun e w'=>e=.returned (.int .i64 (reE9 L1 o.data.toList n.data.toList))∧zD w0 W D P M G A1 (reL9 L1 o.data.toList n.data.toList) S1 w'):=fun W A1 L1 S1 h=>h.mrename o n hz hn
 have HGR:Hid (∀ W A1 L1,zu w0 W D P M G A1 L1 S→Calls Tryz.prog 363 #[.pointer (some ⟨G,0,none⟩),.string o,.string n] W fun e w'=>e=.returned (.int .i64 (Z4 S o.data.toList n.data.toList))∧zD w0 W D P M G A1 L1 (ZC S o.data.toList n.data.toList) w'):=fun W A1 L1 h=>h.grename hg.grp h9 o n hz hn
 have HC:Hid (fX A o.data.toList n.data.toList=0→∀ W,Calls Tryz.prog 191 #[.string n] W fun e w'=>e=.returned (.string n)∧Below W.heap.size W w'):=fun e W=>yt n W (vw (UN e).2.1)
 clear ho hg hz hn
 unfold rnA11 rnL11 rnS11
 generalize fX A o.data.toList n.data.toList=r at *
 generalize zi (zh o.data.toList) 10=e0 at *
 generalize zi (zh n.data.toList) 10=e1 at *
 generalize zi (zz A o.data.toList) 8=e2 at *
 generalize zi (!zz A n.data.toList) 9=e3 at *
 by_cases h0:r=0
 ·
  subst h0
  rw [if_pos rfl,if_pos rfl,if_pos rfl]
  have HP2:=za (HPT.out rfl)
  have HC2:=za (HC.out rfl)
  clear HPT HC
  generalize yR A n.data.toList (qB A o.data.toList,vX A o.data.toList)=A1 at *
  generalize yl (qB A o.data.toList)=ss at *
  generalize vX A o.data.toList=dd at *
  generalize hrr:reE9 L o.data.toList n.data.toList=rr at *
  generalize hrl:reL9 L o.data.toList n.data.toList=L2 at *
  have HRR:=za hrr
  have HRL:=za hrl
  clear hrr hrl
  generalize Z4 S o.data.toList n.data.toList=r10 at *
  generalize ZC S o.data.toList n.data.toList=S2 at *
  go_enter Tryz.func347,Tryz.ntmps347
  have HB0:Hid (Below w.heap.size w w):=Below.refl _ _
  go_wp2_with fail
  with_reducible refine (HN.out w HB0.out).mono ?_
  rintro e u1 ⟨rfl,hb⟩
  have HB1:=za (z7 HB0.out hb)
  clear hb
  go_wp2_with fail
  with_reducible refine (HH.out u1 HB1.out).mono ?_
  rintro e u2 ⟨rfl,hb⟩
  have HB2:=za (z7 HB1.out hb)
  clear hb
  go_wp2_with fail
  with_reducible refine (HI.out u2 HB2.out).mono ?_
  rintro e u3 ⟨rfl,hb⟩
  have HB3:=za (z7 HB2.out hb)
  clear hb
  go_wp2_with fail
  with_reducible refine (HL.out u3 HB3.out).mono ?_
  rintro e u4 ⟨rfl,hb⟩
  have HB4:=za (z7 HB3.out hb)
  clear hb
  go_wp2_with fail
  with_reducible refine (HFS.out _).mono ?_
  rintro e ub ⟨rfl,hub⟩
  have HB:Hid (Below w.heap.size w ub):=by
   show Below _ _ _
   rw [hub]; exact zb HB4.out _
  clear hub HFS HB0 HB1 HB2 HB3 HB4 HN HH HI HL
  have c0:=(HO.out.later HB.out).c0
  have hk:=HK.out _ HB.out
  clear HK
  go_wp2_with fail
  with_reducible refine (HP2.out _ HB.out).mono ?_
  rintro e w5 ⟨rfl,hg5⟩
  have c0':=hg5.1.c0
  obtain ⟨w6,hrun,hgo⟩:=HDR.out w5 0 _ hg5.1
  have HG6:=za (hg5.next hgo)
  clear hg5 hgo HP2 HB hk c0 HDR
  go_wp2_with fail
  refine zA (by kernel_rfl) 7 (fun W=>Below w6.heap.size w6 W) (fun W=>zD w0 w D P M G (xF A1 o.data.toList) L2 S W) (YRnW11 D M o n) (fun v=>v=.int .i64 rr) ?F ?hF (by kernel_rfl) (by kernel_rfl) (by kernel_rfl) (by kernel_rfl) (by decide) (zM (Below.refl _ _)) ?step ?fin
  case hF =>
   intro x
   simp only [List.map_cons,List.map_nil,vb,Act.put,List.setIfInBounds_toArray,List.set_cons_zero,List.set_cons_succ,Nat.zero_add,Nat.reduceAdd]
   exact rfl
  case step =>
   refine ⟨?_,?_,?_,?_,?_,?_,?_,?_,trivial⟩
   ·
    intro x W
    refine ⟨fun _ hW hdep K hK=>?_,(fun h=>absurd h (by decide)),(fun h=>absurd h (by decide))⟩
    clear hdep
    go_simp
    exact hK _ _ rfl hW (fun _ _ h=>h)
   ·
    intro x W
    refine ⟨fun _ hW hdep K hK=>?_,(fun h=>absurd h (by decide)),(fun h=>absurd h (by decide))⟩
    have h0:x 0=_:=hdep 0 rfl
    clear hdep
    simp only [h0] at hK
    go_simp
    exact hK _ _ rfl hW (fun _ _ h=>h)
   ·
    intro x W
    refine ⟨fun _ hW hdep K hK=>?_,(fun h=>absurd h (by decide)),(fun h=>absurd h (by decide))⟩
    have h1:x 1=_:=hdep 1 rfl
    clear hdep
    simp only [h1] at hK
    go_simp
    exact hK _ _ rfl hW (fun _ _ h=>h)
   ·
    intro x W
    refine ⟨fun _ hW hdep K hK=>?_,(fun h=>absurd h (by decide)),(fun h=>absurd h (by decide))⟩
    have h2:x 2=_:=hdep 2 rfl
    have c:=(HG6.out.1.later hW).c1
    clear hdep
    simp only [h2] at hK
    go_simp
    exact hK _ _ rfl hW (fun _ _ h=>h)
   ·
    intro x W
    refine ⟨fun _ hW hdep K hK=>?_,(fun h=>absurd h (by decide)),(fun h=>absurd h (by decide))⟩
    clear hdep
    go_simp
    exact hK _ _ rfl hW (fun _ _ h=>h)
   ·
    intro x W
    refine ⟨fun _ hW hdep K hK=>?_,(fun h=>absurd h (by decide)),(fun h=>absurd h (by decide))⟩
    clear hdep
    go_simp
    exact hK _ _ rfl hW (fun _ _ h=>h)
   ·
    intro x W
    refine ⟨fun _ hW hdep K hK=>?_,(fun h=>absurd h (by decide)),(fun h=>absurd h (by decide))⟩
    have h5:x 5=_:=hdep 5 rfl
    have hc:=HC2.out W
    clear hdep
    simp only [h5] at hK
    go_simp
    refine hc.mono ?_
    rintro e W' ⟨rfl,hb⟩
    exact hK _ _ rfl (z7 hW hb) (fun _ _ h=>h)
   ·
    intro x W
    refine ⟨(fun h=>absurd h (by decide)),fun _ hW hdep K hK=>?_,(fun h=>absurd h (by decide))⟩
    have h3:x 3=_:=hdep 3 rfl
    have h4:x 4=_:=hdep 4 rfl
    have h6:x 6=_:=hdep 6 rfl
    have hc:=HMR.out W _ _ _ (HG6.out.1.later hW)
    clear hdep
    simp only [h3,h4,h6] at hK
    go_simp
    refine hc.mono ?_
    rintro e W' ⟨rfl,hg⟩
    rw [HRL.out] at hg
    exact hK _ _ (by rw [HRR.out]) ⟨hg.1,HG6.out.2.trans ((yy.of_below hW).trans hg.2)⟩
  case fin =>
   intro x W hW hZ
   have HF:=za hW
   have c2:=hW.1.c2
   have HGR1:=za (HGR.out W _ _ hW.1)
   clear hW hZ HG6 HMR HGR HC2 HO HRR HRL c0' hrun
   go_wp2_with fail
   with_reducible refine HGR1.out.mono ?_
   rintro e w8 ⟨rfl,hg⟩
   have HFF:=za (HF.out.next hg)
   clear hg HGR1 HF c2
   go_wp2
   go_ret
   exact ⟨rfl,HFF.out⟩
 ·
  rw [if_neg h0,if_neg h0,if_neg h0]
  clear HPT HC HK HDR HMR HGR
  have q1:(r == 0)=false:=by simpa using h0
  have q2:¬ r=0:=h0
  go_enter Tryz.func347,Tryz.ntmps347
  have HB0:Hid (Below w.heap.size w w):=Below.refl _ _
  go_wp2_with fail
  with_reducible refine (HN.out w HB0.out).mono ?_
  rintro e u1 ⟨rfl,hb⟩
  have HB1:=za (z7 HB0.out hb)
  clear hb
  go_wp2_with fail
  with_reducible refine (HH.out u1 HB1.out).mono ?_
  rintro e u2 ⟨rfl,hb⟩
  have HB2:=za (z7 HB1.out hb)
  clear hb
  go_wp2_with fail
  with_reducible refine (HI.out u2 HB2.out).mono ?_
  rintro e u3 ⟨rfl,hb⟩
  have HB3:=za (z7 HB2.out hb)
  clear hb
  go_wp2_with fail
  with_reducible refine (HL.out u3 HB3.out).mono ?_
  rintro e u4 ⟨rfl,hb⟩
  have HB4:=za (z7 HB3.out hb)
  clear hb
  go_wp2_with fail
  with_reducible refine (HFS.out _).mono ?_
  rintro e ub ⟨rfl,hub⟩
  have HB:Hid (Below w.heap.size w ub):=by
   show Below _ _ _
   rw [hub]; exact zb HB4.out _
  clear hub HFS HB0 HB1 HB2 HB3 HB4 HN HH HI HL
  go_wp2
  go_ret
  exact ⟨rfl,HO.out.still HB.out⟩

def Look11 (A:zt) (L:zj) (S:zn) (n:ByteArray) (w W:World) (v:Value):Prop :=
 (xR A n.data.toList=0→Zs A L S n w W v)∧(xR A n.data.toList≠0→v=.agg #[.string ⟨#[]⟩,.string ⟨#[]⟩,.string ⟨#[]⟩,.bool false,.slice none 0 0])
theorem Zs.low {w w1 W:World} {n:ByteArray} {v:Value} (h:Zs A L S n w1 W v) (hb:Below w.heap.size w w1):Zs A L S n w W v:=by
 obtain ⟨ga,gc,e,hr⟩:=h
 exact ⟨ga,gc,e,zy hr hb.size⟩
set_option maxRecDepth 100000 in
theorem Vn (n:ByteArray) (ho:zu w0 w D P M G A L S) (hk:zC S k) (hn:n.size≤9223372036854775807) :
  Calls Tryz.prog 355 #[.pointer (some ⟨D,0,none⟩),.string n] w fun e w'=>∃ v,e=.returned (.tuple #[v,.int .i64 (xR A n.data.toList)])∧Look11 A L S n w w' v∧Below w.heap.size w w':=by
 have hzu:=zerou11
 have HN:Hid (∀ W,Below w.heap.size w W→Calls Tryz.prog 159 #[.string n] W fun e w'=>e=.returned (.int .i64 (zi (zh n.data.toList) 10))∧Below W.heap.size W w'):=fun W hb=>zR n W hn
 have HI:Hid (∀ W,Below w.heap.size w W→Calls Tryz.prog 319 #[.pointer (some ⟨D,0,none⟩),.string n] W fun e w'=>e=.returned (.int .i64 (zi (zz A n.data.toList) 8))∧Below W.heap.size W w'):=fun W hb=>yx n (ho.later hb) hn
 have HFS:Hid (∀ W:World,Calls Tryz.prog 152 #[.slice (some ⟨W.heap.size,0,none⟩) 2 2] (W.alloc (.cells #[.int .i64 (zi (zh n.data.toList) 10),.int .i64 (zi (zz A n.data.toList) 8)] 54)) fun e w'=>e=.returned (.int .i64 (xR A n.data.toList))∧w'=W.alloc (.cells #[.int .i64 (zi (zh n.data.toList) 10),.int .i64 (zi (zz A n.data.toList) 8)] 54)):=fun W=>by
  have:=vJ W [zi (zh n.data.toList) 10,zi (zz A n.data.toList) 8] 54 (by simp)
  rw [Uf] at this
  exact this
 have HT:Hid (∀ W,Below w.heap.size w W→Calls Tryz.prog 370 #[.pointer (some ⟨D,0,none⟩),.string n] W fun e w'=>∃ v,e=.returned v∧Zs A L S n w w' v∧Below W.heap.size W w'):=fun W hb =>
  (Y7 n (ho.later hb) hk hn).mono fun e w' ⟨v,he,ht,hb'⟩=>⟨v,he,ht.low hb,hb'⟩
 clear ho hk hn
 obtain ⟨r,hr⟩:∃ r,r=xR A n.data.toList:=⟨_,rfl⟩
 rw [← hr] at HFS ⊢
 have HRD:=za hr
 clear hr
 generalize zi (zh n.data.toList) 10=e0 at *
 generalize zi (zz A n.data.toList) 8=e1 at *
 have hz1:ud (w.alloc (.cells #[.string ⟨#[]⟩,.string ⟨#[]⟩,.string ⟨#[]⟩,.bool false,.slice none 0 0] 192)) w.heap.size (.string ⟨#[]⟩) (.string ⟨#[]⟩) (.string ⟨#[]⟩) (.bool false) (.slice none 0 0):=heap_alloc_new w _
 have HZ:=za hz1
 have HB0:Hid (Below w.heap.size w (w.alloc (.cells #[.string ⟨#[]⟩,.string ⟨#[]⟩,.string ⟨#[]⟩,.bool false,.slice none 0 0] 192))):=zb (Below.refl _ _) _
 clear hz1
 go_enter Tryz.func355,Tryz.ntmps355
 go_wp2_with fail
 with_reducible refine (HN.out _ HB0.out).mono ?_
 rintro e u1 ⟨rfl,hb⟩
 have HZ1:=za (show ud u1 _ _ _ _ _ _ from (hb.block w.heap.size (by simp)).trans HZ.out)
 have HB1:=za (z7 HB0.out hb)
 have HL1:Hid (w.heap.size<u1.heap.size):=by have:=hb.size; show _<_; simp at this; omega
 clear hb HZ HB0 HN
 go_wp2_with fail
 with_reducible refine (HI.out _ HB1.out).mono ?_
 rintro e u2 ⟨rfl,hb⟩
 have HZ2:=za (show ud u2 _ _ _ _ _ _ from (hb.block w.heap.size HL1.out).trans HZ1.out)
 have HB2:=za (z7 HB1.out hb)
 have HL2:Hid (w.heap.size<u2.heap.size):=by have:=hb.size; have:=HL1.out; show _<_; omega
 clear hb HZ1 HB1 HI HL1
 go_wp2_with fail
 with_reducible refine (HFS.out _).mono ?_
 rintro e ub ⟨rfl,hub⟩
 have HB:Hid (Below w.heap.size w ub):=by
  show Below _ _ _
  rw [hub]; exact zb HB2.out _
 have HZ3:Hid (ud ub w.heap.size (.string ⟨#[]⟩) (.string ⟨#[]⟩) (.string ⟨#[]⟩) (.bool false) (.slice none 0 0)):=by
  show ud _ _ _ _ _ _ _
  rw [hub]; exact (Below.heap_alloc _ _ _ HL2.out).trans HZ2.out
 have HL3:Hid (w.heap.size<ub.heap.size):=by
  show _<_
  rw [hub]; have:=HL2.out; simp; omega
 clear hub HFS HB2 HZ2 HL2
 have SET:Hid (∀ W,Below w.heap.size w W→ud W w.heap.size (.string ⟨#[]⟩) (.string ⟨#[]⟩) (.string ⟨#[]⟩) (.bool false) (.slice none 0 0)→∀ a b c d e,ud (set5 W w.heap.size a b c d e) w.heap.size a b c d e∧Below w.heap.size w (set5 W w.heap.size a b c d e)∧∀ v xs m,W.ownsRow w.heap.size 9 1 v m xs→(set5 W w.heap.size a b c d e).ownsRow w.heap.size 9 1 v m xs):=fun W hbw hz a b c d e=>by
  have ht:zg (fun i=>i=w.heap.size) W (set5 W w.heap.size a b c d e):=VQ (zg.refl (fun i=>i=w.heap.size) W) w.heap.size (fun _=>rfl) _ _ _ _ _
  refine ⟨hz.set5 _ _ _ _ _,hbw.trans (ht.below_at hbw.size (fun i e=>by omega)),fun v xs m ho=>⟨ho.1,?_⟩⟩
  rcases ho.2 with hn | ⟨g,cap,cur,e1,h0,hg,hr⟩
  ·
   exact .inl hn
  ·
   have hne:g≠w.heap.size:=fun e=>by
    subst e
    rw [show W.heap[w.heap.size]? = _ from hz] at hg
    injection hg with hg
    injection hg with _ h
    exact absurd h (by decide)
   exact .inr ⟨g,cap,cur,e1,h0,(ht.block g (Array.getElem?_eq_some_iff.1 hg).1 hne).trans hg,hr⟩
 by_cases h0:r=0
 ·
  subst h0
  go_wp2_with fail
  with_reducible refine (HT.out _ HB.out).mono ?_
  rintro e w4 ⟨v,rfl,ht,hb⟩
  obtain ⟨ga,gc,rfl,hr⟩:=ht
  have hz:ud w4 w.heap.size (.string ⟨#[]⟩) (.string ⟨#[]⟩) (.string ⟨#[]⟩) (.bool false) (.slice none 0 0):=(hb.block w.heap.size HL3.out).trans HZ3.out
  have hbw:=z7 HB.out hb
  obtain ⟨s1,s2,s3⟩:=SET.out w4 hbw hz (.string n) (.string (yl (qB A n.data.toList))) (.string (yl (yG L n.data.toList))) (.bool (vX A n.data.toList)) (.slice ga (yS S n.data.toList).length gc)
  have HR:=za (s3 _ _ _ hr)
  have HBB:=za s2
  have HT2:Hid (Zs A L S n w (set5 w4 w.heap.size (.string n) (.string (yl (qB A n.data.toList))) (.string (yl (yG L n.data.toList))) (.bool (vX A n.data.toList)) (.slice ga (yS S n.data.toList).length gc)) (.agg #[.string n,.string (yl (qB A n.data.toList)),.string (yl (yG L n.data.toList)),.bool (vX A n.data.toList),.slice ga (yS S n.data.toList).length gc])):=⟨ga,gc,rfl,HR.out⟩
  have HT3:=za (show Look11 A L S n w _ _ from ⟨fun _=>HT2.out,fun h=>absurd HRD.out.symm h⟩)
  clear HT2 HR SET HT HZ3 HL3 hb hr hbw s2 s3
  generalize yl (qB A n.data.toList)=ss at *
  generalize vX A n.data.toList=dd at *
  generalize yl (yG L n.data.toList)=mm at *
  generalize (yS S n.data.toList).length=gl at *
  have f1:=hz.free
  have q0:_=some (.string n:Value):=s1.at_ 0
  have q1:_=some (.string ss:Value):=s1.at_ 1
  have q2:_=some (.string mm:Value):=s1.at_ 2
  have q3:_=some (.bool dd:Value):=s1.at_ 3
  have q4:_=some (.slice ga gl gc:Value):=s1.at_ 4
  have r0:_=some (.string ⟨#[]⟩:Value):=hz.at_ 0
  have r1:_=some (.string ⟨#[]⟩:Value):=hz.at_ 1
  have r2:_=some (.string ⟨#[]⟩:Value):=hz.at_ 2
  have r3:_=some (.bool false:Value):=hz.at_ 3
  have r4:_=some (.slice none 0 0:Value):=hz.at_ 4
  clear hz s1
  unfold set5 at q0 q1 q2 q3 q4 HT3 HBB
  go_wp2
  refine bodyPost_ret (v:=.tuple #[.agg #[.string n,.string ss,.string mm,.bool dd,.slice ga gl gc],.int .i64 0]) ?_ rfl ⟨_,rfl,HT3.out,HBB.out⟩
  simp [results,Tryz.results355,go_sem,q0,q1,q2,q3,q4]
 ·
  have q1:(r == 0)=false:=by simpa using h0
  have q2:(r != 0)=true:=by simpa using h0
  obtain ⟨s1,s2,_⟩:=SET.out ub HB.out HZ3.out (.string ⟨#[]⟩) (.string ⟨#[]⟩) (.string ⟨#[]⟩) (.bool false) (.slice none 0 0)
  have HBB:=za s2
  have hz:=HZ3.out
  clear SET HT HZ3 HL3 s2 HB
  have f1:=hz.free
  have p0:_=some (.string ⟨#[]⟩:Value):=s1.at_ 0
  have p1:_=some (.string ⟨#[]⟩:Value):=s1.at_ 1
  have p2:_=some (.string ⟨#[]⟩:Value):=s1.at_ 2
  have p3:_=some (.bool false:Value):=s1.at_ 3
  have p4:_=some (.slice none 0 0:Value):=s1.at_ 4
  have r0:_=some (.string ⟨#[]⟩:Value):=hz.at_ 0
  have r1:_=some (.string ⟨#[]⟩:Value):=hz.at_ 1
  have r2:_=some (.string ⟨#[]⟩:Value):=hz.at_ 2
  have r3:_=some (.bool false:Value):=hz.at_ 3
  have r4:_=some (.slice none 0 0:Value):=hz.at_ 4
  clear hz s1
  unfold set5 at p0 p1 p2 p3 p4 HBB
  go_wp2
  refine bodyPost_ret (v:=.tuple #[.agg #[.string ⟨#[]⟩,.string ⟨#[]⟩,.string ⟨#[]⟩,.bool false,.slice none 0 0],.int .i64 r]) ?_ rfl ⟨_,rfl,⟨fun h=>absurd (HRD.out.trans h) h0,fun _=>rfl⟩,HBB.out⟩
  simp [results,Tryz.results355,go_sem,p0,p1,p2,p3,p4]
end
end Go.Proofs.YteegkoicalbkbaaGreatDoor
namespace Go.Proofs.YteegkoicalbkbaaGreatDoor
open Go.RowKit Go.Maps Go.Sort Go.Shelf

structure W11 where
 hs:ByteArray
 ml:ByteArray
 dis:Bool
 ga:Option Addr
 gs:List (List UInt8)
 gc:Nat
def W11.u (x:W11):U11:=⟨x.hs.data.toList,x.ml.data.toList,x.dis,x.gs⟩
def Fi (q:List UInt8×W11):List Value:=[.string (yl q.1),.string q.2.hs,.string q.2.ml,.bool q.2.dis,.slice q.2.ga q.2.gs.length q.2.gc]
theorem cu11_at (L:yK W11) (j i:Nat) (hj:j<L.length) (hi:i<5):(L.flatMap Fi)[j * 5+i]? = (Fi L[j])[i]? := by
 induction L generalizing j with
 | nil=>exact absurd hj (Nat.not_lt_zero _)
 | cons q L ih =>
  rw [List.flatMap_cons]
  cases j with
  | zero =>
   rw [List.getElem?_append_left (by simp [Fi]; omega)]
   simp
  | succ j =>
   rw [List.getElem?_append_right (by simp [Fi]; omega)]
   have:=ih j (by simpa using hj)
   rw [show (j+1) * 5+i - (Fi q).length=j * 5+i by simp [Fi]; omega,this]
   simp
theorem infoUser11:(Tryz.prog.info? 192).map (fun i=>(i.zero,i.size,i.bytes))=some (some (.agg #[.string ⟨#[]⟩,.string ⟨#[]⟩,.string ⟨#[]⟩,.bool false,.slice none 0 0]),5,80):=by kernel_rfl

def Yy (w:World) (v:Value) (L:yK W11):Prop:=∃ A c,v=.slice A L.length c∧∀ j (h:j<L.length),∃ g,A=some ⟨g,0,none⟩∧∀ i u,(Fi L[j])[i]? = some u→w.cell? ⟨g,j * 5+i,none⟩=some u
theorem Yy.later {w w':World} {v:Value} {L:yK W11} (h:Yy w v L) (hb:Below w.heap.size w w'):Yy w' v L:=by
 obtain ⟨A,c,e,hc⟩:=h
 exact ⟨A,c,e,fun j hj=>by obtain ⟨g,e,h⟩:=hc j hj; exact ⟨g,e,fun i u hu=>(hb.cell (p:=⟨g,j * 5+i,none⟩) (World.block_lt_of_cell? w _ (h i u hu))).trans (h i u hu)⟩⟩
theorem Yy.of_users {w:World} {base:Nat} {v:Value} {L:yK W11} (h:w.ownsRow base 192 5 v L.length (L.flatMap Fi)):Yy w v L:=by
 have hs:∃ A c,v=.slice A L.length c:=by
  rcases h.2 with ⟨rfl,h0⟩ | ⟨g,cap,cur,rfl,_⟩
  ·
   exact ⟨none,0,by rw [h0]⟩
  ·
   exact ⟨_,_,rfl⟩
 obtain ⟨A,c,rfl⟩:=hs
 refine ⟨A,c,rfl,fun j hj=>?_⟩
 rcases h.2 with ⟨_,h0⟩ | ⟨g,cap,cur,e1,_⟩
 ·
  omega
 ·
  injection e1 with e1
  subst e1
  refine ⟨g,rfl,fun i u hu=>?_⟩
  have hi:i<5:=(List.getElem?_eq_some_iff.1 hu).1
  have:=World.ownsRow.cells h (g:=g) rfl (j * 5+i) u (by rw [cu11_at L j i hj hi]; exact hu)
  rw [Addr.add_lit,Nat.zero_add] at this
  exact this



def Rw11 (L:yK W11) (w:World) (v:Value):Prop:=w.ownsRow 0 192 5 v L.length (L.flatMap Fi)
theorem Rw11.us {L:yK W11} {w:World} {v:Value} (h:Rw11 L w v):Yy w v L:=Yy.of_users (base:=0) h
theorem uS {w w':World} {b:Nat} {e size n:Nat} {v:Value} {xs:List Value} (h:w.ownsRow b e size v n xs) (hk:yy w w') (h1:e≠240) (h2:e≠290) (h3:e≠278):w'.ownsRow b e size v n xs:=by
 refine ⟨h.1,?_⟩
 rcases h.2 with hn | ⟨g,cap,cur,e1,h0,hg,hr⟩
 ·
  exact .inl hn
 ·
  exact .inr ⟨g,cap,cur,e1,h0,hk g _ _ _ hg h1 h2 h3,hr⟩
theorem Rw11.keeps {L:yK W11} {w w':World} {v:Value} (h:Rw11 L w v) (hk:yy w w'):Rw11 L w' v:=uS h hk (by decide) (by decide) (by decide)
theorem Rw11.later {L:yK W11} {w w':World} {v:Value} (h:Rw11 L w v) (hb:Below w.heap.size w w'):Rw11 L w' v:=h.keeps (yy.of_below hb)
theorem Rw11.of_own {L:yK W11} {w:World} {b:Nat} {v:Value} (h:w.ownsRow b 192 5 v L.length (L.flatMap Fi)):Rw11 L w v:=zy h (Nat.zero_le _)
theorem Rw11.nil (w:World):Rw11 [] w (.slice none 0 0):=World.ownsRow_nil _ _ _ _
theorem Yy.at_ {w:World} {A:Option Addr} {c n:Nat} {L:yK W11} (h:Yy w (.slice A n c) L) (k:Nat) (hk:k<L.length) :
  ∃ g,A=some ⟨g,0,none⟩∧w.cell? ⟨g,k * 5,none⟩=some (.string (yl L[k].1))∧w.cell? ⟨g,k * 5+1,none⟩=some (.string L[k].2.hs)∧w.cell? ⟨g,k * 5+2,none⟩=some (.string L[k].2.ml)∧w.cell? ⟨g,k * 5+3,none⟩=some (.bool L[k].2.dis)∧w.cell? ⟨g,k * 5+4,none⟩=some (.slice L[k].2.ga L[k].2.gs.length L[k].2.gc):=by
 obtain ⟨A',c',e,hc⟩:=h
 injection e with e1 e2 e3
 obtain ⟨g,eg,hcell⟩:=hc k hk
 exact ⟨g,by rw [e1,eg],hcell 0 _ rfl,hcell 1 _ rfl,hcell 2 _ rfl,hcell 3 _ rfl,hcell 4 _ rfl⟩
theorem Yy.shape {w:World} {v:Value} {L:yK W11} (h:Yy w v L):∃ A c,v=.slice A L.length c:=by
 obtain ⟨A,c,e,_⟩:=h
 exact ⟨A,c,e⟩




structure UsC11 (w:World) (B:Nat) (s:ByteArray) (x:W11) (n:Nat):Prop where
 lt:B<w.heap.size
 c0:w.cell? ⟨B,0,none⟩=some (.string s)
 c1:w.cell? ⟨B,1,none⟩=some (.string x.hs)
 c2:w.cell? ⟨B,2,none⟩=some (.string x.ml)
 c3:w.cell? ⟨B,3,none⟩=some (.bool x.dis)
 c4:w.cell? ⟨B,4,none⟩=some (.slice x.ga n x.gc)
theorem UsC11.of_heap {w W:World} {B n:Nat} {s:ByteArray} {x:W11} (hx:UsC11 w B s x n) (he:W.heap[B]? = w.heap[B]?):UsC11 W B s x n:=by
 have hB:=hx.lt
 have hc:∀ i,W.cell? ⟨B,i,none⟩=w.cell? ⟨B,i,none⟩:=fun i=>World.cell?_of_block he
 refine ⟨?_,(hc 0).trans hx.c0,(hc 1).trans hx.c1,(hc 2).trans hx.c2,(hc 3).trans hx.c3,(hc 4).trans hx.c4⟩
 rw [Array.getElem?_eq_getElem hB] at he
 exact (Array.getElem?_eq_some_iff.1 he).1
theorem UsC11.below_at {w W:World} {B m:Nat} {s:ByteArray} {x:W11} (hx:UsC11 w B s x m) {n:Nat} (hn:B<n) (hb:Below n w W):UsC11 W B s x m:=hx.of_heap (hb.block B hn)





end Go.Proofs.YteegkoicalbkbaaGreatDoor
namespace Go.Proofs.YteegkoicalbkbaaGreatDoor
open Go.RowKit Go.Maps
set_option linter.unusedSectionVars false

theorem jo {w:World} {b1 b2 s1 s2 n1 n2:Nat} {e1 e2:TypeId} {v1 v2:Value} {xs1 xs2:List Value} (h1:w.ownsRow b1 e1 s1 v1 n1 xs1) (h2:w.ownsRow b2 e2 s2 v2 n2 xs2) (he:e1≠e2):v1.ownBlock=none∨v1.ownBlock≠v2.ownBlock:=by
  rcases h1.2 with ⟨rfl,_⟩ | ⟨g,cap,cur,rfl,_,hg,_⟩
  · exact .inl rfl
  · rcases h2.2 with ⟨rfl,_⟩ | ⟨g2,cap2,cur2,rfl,_,hg2,_⟩
    · exact .inr (by simp [Value.ownBlock])
    · refine .inr fun e=>?_
      have:g=g2:=by simpa [Value.ownBlock] using e
      subst this
      rw [hg] at hg2
      injection hg2 with h
      injection h with _ h
      exact he h

def QT (b:Nat) (w:World) (R:yK W11):Prop:=∀ p∈R,w.ownsRow b 9 1 (.slice p.2.ga p.2.gs.length p.2.gc) p.2.gs.length (p.2.gs.map encStr)
def VY (R:yK W11):xh:=R.map fun p=>(p.1,p.2.u)
def Rc11 (b:Nat) (R:yK W11) (w:World) (v:Value):Prop:=w.ownsRow b 192 5 v R.length (R.flatMap Fi)∧QT b w R
section
variable {w w':World} {b:Nat} {R:yK W11} {v:Value}
theorem QT.later (h:QT b w R) (hb:Below w.heap.size w w'):QT b w' R:=fun p hp=>zQ (h p hp) hb
theorem QT.keeps (h:QT b w R) (hk:yy w w'):QT b w' R:=fun p hp=>uS (h p hp) hk (by decide) (by decide) (by decide)
theorem QT.low (h:QT b w R) {a:Nat} (ha:a≤b):QT a w R:=fun p hp=>zy (h p hp) ha
theorem Rc11.later (h:Rc11 b R w v) (hb:Below w.heap.size w w'):Rc11 b R w' v:=⟨zQ h.1 hb,h.2.later hb⟩
theorem Rc11.keeps (h:Rc11 b R w v) (hk:yy w w'):Rc11 b R w' v:=⟨uS h.1 hk (by decide) (by decide) (by decide),h.2.keeps hk⟩
theorem Rc11.low (h:Rc11 b R w v) {a:Nat} (ha:a≤b):Rc11 a R w v:=⟨zy h.1 ha,h.2.low ha⟩
theorem Rc11.rw (h:Rc11 b R w v):Rw11 R w v:=Rw11.of_own h.1
theorem Rc11.nil (b:Nat) (w:World):Rc11 b [] w (.slice none 0 0):=⟨World.ownsRow_nil _ _ _ _,(fun _ h=>nomatch h)⟩
end

section
variable [Fr11] {w0 w:World} {D P M G:Nat} {A:zt} {L:zj} {S:zn} {k:Nat}
set_option maxRecDepth 100000 in
theorem Jz (ho:zu w0 w D P M G A L S) (hg:zm A L S k):Calls Tryz.prog 368 #[.pointer (some ⟨D,0,none⟩)] w fun e w'=>∃ v R,e=.returned v∧Rc11 w.heap.size R w' v∧VY R=zl A L S∧Below w.heap.size w w':=by
  have HN:=za (ff ho hg.rise hg.few)
  have HT:Hid (∀ W n,Below w.heap.size w W→n.size≤9223372036854775807→Calls Tryz.prog 370 #[.pointer (some ⟨D,0,none⟩),.string n] W fun e w'=>∃ v,e=.returned v∧Zs A L S n w w' v∧Below W.heap.size W w'):=fun W n hb hn =>
    (Y7 n (ho.later hb) hg.grp hn).mono fun e w' ⟨v,he,ht,hb'⟩=>⟨v,he,ht.low hb,hb'⟩
  have HG:=za hg
  have hfew:=hg.few
  clear ho hg
  obtain ⟨i0,hi,hz0,hz1,hz2⟩:=info_parts infoUser11
  obtain ⟨n,hn⟩:∃ n,n=A.length:=⟨_,rfl⟩
  have HLN:Hid (A.length=n):=hn.symm
  rw [← hn] at hfew
  clear hn
  go_enter Tryz.func368,Tryz.ntmps368
  go_wp2_with fail
  with_reducible refine HN.out.mono ?_
  rintro e w1 ⟨v,rfl,hrow,hb⟩
  rw [xm,HLN.out] at hrow
  have hlen:(zc A).length=n:=by rw [xm]; exact HLN.out
  obtain ⟨AA,c,rfl⟩:∃ AA c,v=.slice AA n c:=by
    have:=xG (ls:=zc A) (by rw [hlen]; exact hrow)
    rwa [hlen] at this
  have HRW:=za hrow
  have HB:=za hb
  have HLE:=za hlen
  clear hb hrow HN hlen
  go_wp2
  go_loopg [3,5,9] n (fun gg s3 _ s9 wr=>∃ k:Nat,k≤n∧n - k≤gg∧s9=.int .i64 k∧Hid (Below w.heap.size w wr)∧Hid (wr.ownsRow w.heap.size 9 1 (.slice AA n c) n ((zc A).map encStr))∧∃ R:yK W11,R.length=k∧Hid (VY R=(zl A L S).take k)∧Hid (wr.ownsRow w.heap.size 192 5 s3 k (R.flatMap Fi))∧Hid (QT w.heap.size wr R))
  case atStart=>exact ⟨0,Nat.zero_le _,by omega,rfl,HB,HRW,[],rfl,rfl,World.ownsRow_nil _ _ _ _,(fun _ h=>nomatch h)⟩
  case round =>
    obtain ⟨k,hk,hg,rfl,HW,HR2,R,hRl,HPL,HU,HGS⟩:=hrel
    by_cases hlt:k<n
    · have hltz:(k:Int)<(n:Int):=by omega
      have hkl:k<A.length:=by have:=HLN.out; omega
      have hr2:=HR2.out
      have hle:=HLE.out
      obtain ⟨g,cx,e1,hcell⟩:=fW (ls:=zc A) (by rw [hle]; exact hr2) (zg.refl (fun _=>False) wr) (fun _ _ _ _ _ _ f=>f) (k:=k) (by rw [hle]; exact hlt)
      injection e1 with e1 e2 e3
      subst e1
      subst e3
      clear e2
      have hnm:(zc A)[k]'(by rw [hle]; exact hlt)=A[k].1:=by simp [zc]
      rw [hnm] at hcell
      have hna:A[k]∈A:=List.getElem_mem hkl
      have hsz:(yl A[k].1).size≤9223372036854775807:=by
        rw [xT]
        exact Nat.le_trans (qE (HG.out.nm _ hna).1) (by decide)
      have HTK:=za (HT.out wr (yl A[k].1) HW.out hsz)
      have hgk:qe A A[k].1=some A[k].2:=(ye HG.out.rise).2 hna
      have HTE:Hid (xJ L S A[k].1 A[k].2=⟨qB A A[k].1,yG L A[k].1,vX A A[k].1,yS S A[k].1⟩):=by
        show _=_
        unfold xJ qB vX
        rw [hgk]
      have HTT:Hid ((zl A L S).take (k+1)=(zl A L S).take k++[(A[k].1,xJ L S A[k].1 A[k].2)]):=by
        have hkt:k<(zl A L S).length:=by rw [jJ]; exact hkl
        show _=_
        rw [List.take_succ_eq_append_getElem hkt]
        congr 1
        simp [zl]
      have HNM:Hid ((yl A[k].1).data.toList=A[k].1):=zS _
      generalize hkn:A[k].1=kn at *
      generalize hsn:yl kn=sn at *
      have HSN:=za hsn
      clear hnm hr2 hle hsz hna hgk hkn hsn
      go_wp2_with fail
      with_reducible refine HTK.out.mono ?_
      rintro e w2 ⟨v,rfl,⟨ga,gc,rfl,hgr⟩,hb⟩
      rw [HNM.out] at hgr ⊢
      have HGR:=za hgr
      have HU2:=za (zQ HU.out hb)
      have HR3:=za (zQ HR2.out hb)
      have HGS2:=za (HGS.out.later hb)
      have HB2:=za (z7 HW.out hb)
      clear hgr hb HTK hcell
      generalize hha:yl (qB A kn)=sh at *
      have HHA:Hid (sh.data.toList=qB A kn):=by rw [← hha]; exact zS _
      generalize hhm:yl (yG L kn)=sm at *
      have HHM:Hid (sm.data.toList=yG L kn):=by rw [← hhm]; exact zS _
      clear hha hhm
      generalize hdd:vX A kn=dd at *
      generalize hgs:yS S kn=gs at *
      generalize hgl:gs.length=gl at *
      have HGL:=za hgl
      clear hdd hgs hgl
      have hrk:k≤12:=by omega
      go_wp2_with (first
        | (at_builtin; refine wpList_append_own _ rfl _ _ 28 rfl w.heap.size 192 i0 (.agg #[.string ⟨#[]⟩,.string ⟨#[]⟩,.string ⟨#[]⟩,.bool false,.slice none 0 0]) 5 80 Tryz.underlying28 hi hz0 hz1 hz2 rfl (by decide) _ _ _ rfl (HU2.out.alloc _) ⟨w2.heap.size,0,none⟩ 1 1 [.string sn,.string sh,.string sm,.bool dd,.slice ga gl gc] rfl rfl
            (fun j u hu=>by rw [Addr.add_lit,Nat.zero_add,World.cell?_alloc_at _ _ _ _ rfl]; simpa using hu) (by simp [Value.oneCell']) (by unfold maxLen; omega) (by omega) (by have:=HB2.out.size; simp; omega) ?_
           intro v' w3 hown' hgrow _
           have HO:=za hown'
           have HGW:=za hgrow
           clear hown' hgrow)
        | fail)
      go_roundg (n - (k+1))
      case measure=>omega
      case rel =>
        refine ⟨k+1,by omega,by omega,by go_num,(show Hid _ from ?_),(show Hid _ from ?_),R++[(kn,⟨sh,sm,dd,ga,gs,gc⟩)],by rw [List.length_append,hRl]; rfl,(show Hid _ from ?_),(show Hid _ from ?_),(show Hid _ from ?_)⟩
        · exact (z7 HB2.out (zb (Below.refl _ _) _)).grown HGW.out (by have:=HB2.out.size; simp; omega) (fun j hj=>(HU2.out.lt j hj).1)
        · exact (HR3.out.alloc _).kept HGW.out (jo HR3.out HU2.out (by decide))
        · show VY _=_
          rw [HTT.out,HTE.out,← HPL.out]
          unfold VY
          rw [List.map_append]
          show _++[(kn,W11.u ⟨sh,sm,dd,ga,gs,gc⟩)]=_
          unfold W11.u
          rw [HHA.out,HHM.out]
        · rw [List.flatMap_append]
          have ho:=HO.out
          have e:[(kn,(⟨sh,sm,dd,ga,gs,gc⟩:W11))].flatMap Fi=[.string sn,.string sh,.string sm,.bool dd,.slice ga gl gc]:=by
            simp [Fi,HSN.out,HGL.out]
          rw [e]
          exact ho
        · intro p hp
          rcases List.mem_append.1 hp with hp | hp
          · have h:=HGS2.out p hp
            exact (h.alloc _).kept HGW.out (jo h HU2.out (by decide))
          · obtain rfl:=List.mem_singleton.1 hp
            have h:=HGR.out
            show World.ownsRow _ _ _ _ (.slice ga gs.length gc) gs.length (gs.map encStr)
            rw [HGL.out]
            exact (h.alloc _).kept HGW.out (jo h HU2.out (by decide))
    · have hltz:¬ (k:Int)<(n:Int):=by omega
      obtain rfl:k=n:=by omega
      go_wp2
      go_ret
      have hp:=HPL.out
      have hu:=HU.out
      rw [← hRl] at hu
      rw [List.take_of_length_le (by rw [jJ,HLN.out]; exact Nat.le_refl _)] at hp
      exact ⟨_,rfl,R,⟨hu,HGS.out⟩,hp,HW.out⟩
end
end Go.Proofs.YteegkoicalbkbaaGreatDoor
namespace Go.Proofs.YteegkoicalbkbaaGreatDoor
open Go.RowKit Go.Maps

section
variable {W W':World} {b:Nat} {v1 v2:Value}
theorem alloc_at11 {W:World} {o:Obj} {n:Nat} (h:W.heap.size=n):(W.alloc o).heap[n]? = some o:=by
 subst h
 exact (MapKept.heap_alloc W _).1
end



theorem QT.put {b:Nat} {w:World} {R:yK W11} (h:QT b w R) (n:List UInt8) (x:W11) (hx:w.ownsRow b 9 1 (.slice x.ga x.gs.length x.gc) x.gs.length (x.gs.map encStr)):QT b w (yR R n x):=fun p hp=>by
 rcases yM.1 hp with rfl | ⟨hp,_⟩
 ·
  exact hx
 ·
  exact h p hp
theorem QT.del {b:Nat} {w:World} {R:yK W11} (h:QT b w R) (n:List UInt8):QT b w (xF R n):=fun p hp=>h p (yu.1 hp).1
theorem QT.get {b:Nat} {w:World} {R:yK W11} (h:QT b w R) (hr:zJ R) {n:List UInt8} {x:W11} (hx:qe R n=some x):NmR w (.slice x.ga x.gs.length x.gc) x.gs:=zy (h (n,x) ((ye hr).1 hx)) (Nat.zero_le _)




end Go.Proofs.YteegkoicalbkbaaGreatDoor
