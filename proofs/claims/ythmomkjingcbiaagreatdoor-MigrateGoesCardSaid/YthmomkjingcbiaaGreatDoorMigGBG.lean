/-
  The texts that the laws of this seat share, part 7: what the code and the document's own answers tell, walked function by function.
  Conditions: each theorem's own.
-/
import Derived.Test.YthmomkjingcbiaaGreatDoorMigGBF
set_option maxHeartbeats 16000000
namespace Go.Proofs.YthmomkjingcbiaaGreatDoor
open Go.RowKit Go.Maps Go.Sort Go.Shelf

def yO:List Us→Int
 | []=>0
 | u::r=>if yM 2 u=0 then yO r else yM 2 u
def fC (l:List Us):Int:=yK [yO l,ze (zA (l.map (·.nm))) 9,ze (decide ((l.length:Int)≤12)) 7]

end Go.Proofs.YthmomkjingcbiaaGreatDoor
namespace Go.Proofs.YthmomkjingcbiaaGreatDoor
open Go.RowKit Go.Maps

structure U11 where
 hs:List UInt8
 ml:List UInt8
 dis:Bool
 gs:List (List UInt8)
abbrev zt:=zX (List UInt8×Bool)
abbrev xI:=zX U11
def xl (L:zg) (S:zj) (n:List UInt8) (a:List UInt8×Bool):U11:=⟨a.1,yF L n,a.2,yX S n⟩
def zm (A:zt) (L:zg) (S:zj):xI:=A.map fun p=>(p.1,xl L S p.1 p.2)

section
variable {V:Type}
theorem extV11:∀ {a b:zX V},zB a→zB b→(∀ x,x∈a↔x∈b)→a=b
 | [],[],_,_,_=>rfl
 | [],y::s,_,_,h=>absurd ((h y).2 (by simp)) (by simp)
 | x::r,[],_,_,h=>absurd ((h x).1 (by simp)) (by simp)
 | x::r,y::s,ha,hb,h=>by
  obtain ⟨a1,a2⟩:=List.pairwise_cons.1 ha
  obtain ⟨b1,b2⟩:=List.pairwise_cons.1 hb
  have e:x=y:=by
   rcases List.mem_cons.1 ((h x).1 (by simp)) with e | hx
   ·
    exact e
   ·
    rcases List.mem_cons.1 ((h y).2 (by simp)) with e | hy
    ·
     exact e.symm
    ·
     exact absurd (b1 _ hx) (by rw [yT (a1 _ hy)]; exact Bool.noConfusion)
  subst e
  rw [extV11 a2 b2 fun z=>?_]
  constructor
  ·
   intro hz
   rcases List.mem_cons.1 ((h z).1 (by simp [hz])) with e | h'
   ·
    subst e; exact absurd (a1 _ hz) (by rw [zn]; exact Bool.noConfusion)
   ·
    exact h'
  ·
   intro hz
   rcases List.mem_cons.1 ((h z).2 (by simp [hz])) with e | h'
   ·
    subst e; exact absurd (b1 _ hz) (by rw [zn]; exact Bool.noConfusion)
   ·
    exact h'
theorem ext11 {a b:zX V} (ha:zB a) (hb:zB b) (h:∀ k,xV a k=xV b k):a=b :=
 extV11 ha hb fun x=>by rw [← zV (k:=x.1) (v:=x.2) ha,← zV (k:=x.1) (v:=x.2) hb,h]
theorem fS {L:zX V} (hr:zB L) (k:List UInt8) (v:V) (x:List UInt8):xV (yB L k v) x=if x=k then some v else xV L x:=by
 refine Option.ext fun y=>?_
 rw [zV (yJ hr k v),yf]
 by_cases e:x=k
 ·
  subst e
  rw [if_pos rfl]
  constructor
  ·
   rintro (h | ⟨_,h⟩)
   ·
    injection h with _ h; rw [h]
   ·
    exact absurd rfl h
  ·
   intro h; injection h with h; rw [h]; exact .inl rfl
 ·
  rw [if_neg e,zV hr]
  constructor
  ·
   rintro (h | ⟨h,_⟩)
   ·
    injection h with h; exact absurd h e
   ·
    exact h
  ·
   intro h; exact .inr ⟨h,e⟩
theorem XY {L:zX V} (hr:zB L) (k x:List UInt8):xV (vR L k) x=if x=k then none else xV L x:=by
 refine Option.ext fun y=>?_
 rw [zV (xc hr k),xQ]
 by_cases e:x=k
 ·
  subst e
  rw [if_pos rfl]
  constructor
  ·
   rintro ⟨_,h⟩; exact absurd rfl h
  ·
   intro h; cases h
 ·
  rw [if_neg e,zV hr]
  exact ⟨fun h=>h.1,fun h=>⟨h,e⟩⟩
end

section
variable {A:zt} {L:zg} {S:zj}
theorem ux (A:zt) (L:zg) (S:zj):zb (zm A L S)=zb A:=by
 unfold zm zb; rw [List.map_map]; rfl
theorem uy (A:zt) (L:zg) (S:zj):(zm A L S).length=A.length:=List.length_map _
theorem yA (h:zB A):zB (zm A L S):=yQ h (ux A L S)
theorem qD (A:zt) (L:zg) (S:zj) (k:List UInt8):zE (zm A L S) k=zE A k:=by
 rw [Bool.eq_iff_iff,yo,yo,ux]
theorem yP (h:zB A) (k:List UInt8):xV (zm A L S) k=(xV A k).map (xl L S k):=by
 refine Option.ext fun y=>?_
 rw [zV (yA h)]
 unfold zm
 rw [List.mem_map]
 constructor
 ·
  rintro ⟨p,hp,e⟩
  injection e with e1 e2
  subst e1
  rw [(zV (k:=p.1) (v:=p.2) h).2 hp,← e2]; rfl
 ·
  intro hy
  cases hg:xV A k with
  | none=>rw [hg] at hy; cases hy
  | some a =>
   rw [hg] at hy
   injection hy with hy
   exact ⟨(k,a),(zV h).1 hg,by rw [← hy]⟩

/-! ### addresses -/
theorem fb (L:zg) (n x:List UInt8):yF (xH L n) x=if x=n then [] else yF L x:=by
 by_cases e:x=n
 ·
  subst e; rw [if_pos rfl]; exact yC (YL L x)
 ·
  rw [if_neg e]
  cases h:yb L x with
  | false=>rw [yC h,yC (by rw [U0 e]; exact h)]
  | true =>
   have h1:=xz h
   unfold yF xH
   have:∀ M:zg,((M.filter fun p=>!(p.1 == n)).find? fun p=>p.1 == x)=M.find? fun p=>p.1 == x:=by
    intro M
    induction M with
    | nil=>rfl
    | cons y r ih =>
     by_cases ey:y.1=n
     ·
      have:(y.1 == x)=false:=by simp [ey]; exact fun h=>e h.symm
      rw [List.filter_cons_of_neg (by simp [ey]),ih,List.find?_cons_of_neg (by simp [this])]
     ·
      rw [List.filter_cons_of_pos (by simp [ey])]
      by_cases ex:y.1=x
      ·
       rw [List.find?_cons_of_pos (by simp [ex]),List.find?_cons_of_pos (by simp [ex])]
      ·
       rw [List.find?_cons_of_neg (by simp [ex]),List.find?_cons_of_neg (by simp [ex]),ih]
   rw [this]
theorem YN (hr:yY L) (n a x:List UInt8):yF (yR L n a) x=if x=n then a else yF L x:=by
 by_cases e:x=n
 ·
  subst e; rw [if_pos rfl,get_put hr]
 ·
  rw [if_neg e]
  cases h:yb L x with
  | true =>
   have h1:=xz h
   exact qo (xO hr n a) (q:=(x,yF L x)) (xx.2 (.inr ⟨h1,e⟩))
  | false =>
   rw [yC h]
   refine yC ?_
   cases h2:yb (yR L n a) x with
   | false=>rfl
   | true =>
    obtain ⟨p,hp,hx⟩:=yw.1 h2
    rcases xx.1 hp with rfl | ⟨hp,_⟩
    ·
     exact absurd hx.symm e
    ·
     rw [yw.2 ⟨p,hp,hx⟩] at h; cases h

/-! ### groups -/
theorem rel11 (hr:zB S):∃ M,vU S (zb S) M :=
 ⟨S.flatMap fun p=>p.2.map fun m=>(p.1,m.1),rfl,fun g n=>by
  rw [xy hr,List.mem_flatMap]
  constructor
  ·
   rintro ⟨p,hp,h⟩
   obtain ⟨m,hm,e⟩:=List.mem_map.1 h
   injection e with e1 e2
   exact ⟨p,hp,e1,xf.2 ⟨m,hm,e2⟩⟩
  ·
   rintro ⟨p,hp,e1,h⟩
   obtain ⟨m,hm,e2⟩:=xf.1 h
   exact ⟨p,hp,List.mem_map.2 ⟨m,hm,by rw [e1,e2]⟩⟩⟩
variable {k:Nat}
theorem JP (hg:zH S k) {g:List UInt8} (he:uM S g=0) (x n:List UInt8):uC (qj S g) x n=uC S x n:=by
 unfold qj
 rw [if_pos he,UL hg.rise (ZU he).2.1]
theorem in_join (hg:zH S k) {g n:List UInt8} (he:qK S g n=0) (x m:List UInt8):uC (ql S g n) x m=true↔uC S x m=true∨(x=g∧m=n):=by
 obtain ⟨M,hM⟩:=rel11 hg.rise
 rw [← (hM.join hg he).mem,List.mem_append,hM.mem]
 simp
theorem XT (hg:zH S k) (n x m:List UInt8):uC (uK S n) x m=true↔uC S x m=true∧m≠n:=by
 obtain ⟨M,hM⟩:=rel11 hg.rise
 rw [← (hM.remove hg n).mem,Jt,hM.mem]

theorem ofT {S':zj} (hr:zB S) (hr':zB S') {n n':List UInt8} (h:∀ g,uC S' g n'=true↔uC S g n=true):yX S' n'=yX S n :=
 uh (uj hr' n') (uj hr n) fun g=>by rw [uA hr',uA hr,h]
theorem of_make (hg:zH S k) {g:List UInt8} (he:uM S g=0) (n:List UInt8):yX (qj S g) n=yX S n :=
 ofT hg.rise (XX hg g).rise fun x=>by rw [JP hg he]
theorem JC (hg:zH S k) (n m:List UInt8):yX (uK S n) m=if m=n then [] else yX S m:=by
 by_cases e:m=n
 ·
  subst e; rw [if_pos rfl]; exact Ju hg.rise m
 ·
  rw [if_neg e]
  exact ofT hg.rise (fR hg n).rise fun x=>by rw [XT hg]; simp [e]
end

structure zs (A:zt) (L:zg) (S:zj) (k:Nat):Prop where
 rise:zB A
 few:A.length≤12
 nm:∀ p∈A,zf p.1=true∧zL p.2.1=true
 mir:∃ M,zS L M
 all:∀ x∈L,May9 x
 has:∀ x∈L,zE A x.1=true
 lfew:L.length≤k
 grp:zH S k
 mem:∀ g n,uC S g n=true→zE A n=true
theorem zs.nil:zs [] [] [] 0:=⟨List.Pairwise.nil,by simp,(fun _ h=>nomatch h),⟨[],zS.nil⟩,(fun _ h=>nomatch h),(fun _ h=>nomatch h),Nat.le_refl _,zH.nil,fun g n h=>by simp [uC,XH,xV,zE] at h⟩

def Fh (a b c d:Bool):Int:=if a then (if b then (if c then 9 else if d then 7 else 0) else 4) else 10
def deF11 (a c:Bool):Int:=if a then (if c then 0 else 8) else 10
def Jq (a b c d:Bool):Int:=if a then (if b then (if c then (if d then 12 else 0) else 8) else 4) else 10
def Jo (a b c d:Bool):Int:=if a then (if b then (if c then (if d then 9 else 0) else 8) else 11) else 10

/-! ### of the code -/
def uP (A:zt) (n:List UInt8):Bool:=match xV A n with | some a=>a.2 | none=>false
def Zm (A:zt) (n:List UInt8):List UInt8:=match xV A n with | some a=>a.1 | none=>[]
def uN (m:List UInt8):Bool:=decide (m=[]) || yS m
def Vd (A:zt) (n h:List UInt8):Int:=Fh (zf n) (zL h) (zE A n) (decide (12≤A.length))
def crA11 (A:zt) (n h:List UInt8):zt:=if Vd A n h=0 then yB A n (h,false) else A
def uQ (A:zt) (n:List UInt8):Int:=deF11 (zf n) (zE A n)
def Xk (A:zt) (n h:List UInt8):Int:=Jq (zf n) (zL h) (zE A n) (uP A n)
def FO (A:zt) (n h:List UInt8):zt:=if Xk A n h=0 then yB A n (h,uP A n) else A
def jN (A:zt) (L:zg) (n m:List UInt8):Int:=Jo (zf n) (uN m) (zE A n) (decide (uW L n m=9))
def Qe (A:zt) (L:zg) (n m:List UInt8):zg:=if jN A L n m=0 then Xl L n m else L

/-! ### of the document -/
def disU (l:xI) (n:List UInt8):Bool:=match xV l n with | some u=>u.dis | none=>false
def setU (l:xI) (n:List UInt8) (f:U11→U11):xI:=match xV l n with | some u=>yB l n (f u) | none=>l
def badU (l:xI) (n a:List UInt8):Bool:=l.any fun p=>!(a == []) && (p.2.ml == a) && !(p.1 == n)
def vj (m:List UInt8):List UInt8:=if yS m then zD m else []
def dcrE (l:xI) (n h:List UInt8):Int:=Fh (zf n) (zL h) (zE l n) (decide (12≤l.length))
def dcrL (l:xI) (n h:List UInt8):xI:=if dcrE l n h=0 then yB l n ⟨h,[],false,[]⟩ else l
def ddeE (l:xI) (n:List UInt8):Int:=deF11 (zf n) (zE l n)
def ddeL (l:xI) (n:List UInt8):xI:=if ddeE l n=0 then vR l n else l
def dshE (l:xI) (n h:List UInt8):Int:=Jq (zf n) (zL h) (zE l n) (disU l n)
def dshL (l:xI) (n h:List UInt8):xI:=if dshE l n h=0 then setU l n (fun u=>{ u with hs:=h }) else l
def dsmE (l:xI) (n m:List UInt8):Int:=Jo (zf n) (uN m) (zE l n) (badU l n (vj m))
def dsmL (l:xI) (n m:List UInt8):xI:=if dsmE l n m=0 then setU l n (fun u=>{ u with ml:=vj m }) else l
def F5 (N:List (List UInt8)) (g:List UInt8):Int:=if zf g then (if fO N g then 9 else if 6≤N.length then 7 else 0) else 10
def F3 (N:List (List UInt8)) (g:List UInt8):List (List UInt8):=if F5 N g=0 then VB (N++[g]) else N

section
variable {A:zt} {L:zg} {S:zj} {k:Nat}
theorem zs.free (h:zs A L S k) {n:List UInt8} (hn:zE A n=false):yb L n=false∧yF L n=[]∧yX S n=[]:=by
 have h1:yb L n=false:=by
  cases hh:yb L n with
  | false=>rfl
  | true =>
   obtain ⟨x,hx,e⟩:=yw.1 hh
   have:=h.has x hx
   rw [e,hn] at this; cases this
 refine ⟨h1,yC h1,List.eq_nil_iff_forall_not_mem.2 fun g hg=>?_⟩
 have:=h.mem g n ((uA h.grp.rise).1 hg)
 rw [hn] at this; cases this
theorem zs.lrise (h:zs A L S k):yY L:=by obtain ⟨_,h⟩:=h.mir; exact h.rl
theorem FF (h:zs A L S k) (n:List UInt8):disU (zm A L S) n=uP A n:=by
 unfold disU uP
 rw [yP h.rise]
 cases xV A n <;> rfl
theorem Ut (h:zB A) (n:List UInt8) (a:List UInt8×Bool):zm (yB A n a) L S=yB (zm A L S) n (xl L S n a) :=
 ext11 (yA (yJ h n a)) (yJ (yA h) n _) fun x=>by
  rw [yP (yJ h n a),fS h,fS (yA h),yP h]
  by_cases e:x=n
  ·
   subst e; rw [if_pos rfl,if_pos rfl]; rfl
  ·
   rw [if_neg e,if_neg e]
theorem Uu (h:zB A) {L':zg} {S':zj} {n:List UInt8} {f:U11→U11} (ho:∀ x,x≠n→yF L' x=yF L x∧yX S' x=yX S x) (hn:∀ a,xV A n=some a→xl L' S' n a=f (xl L S n a)):zm A L' S'=setU (zm A L S) n f:=by
 unfold setU
 rw [yP h]
 cases hh:xV A n with
 | none =>
  refine ext11 (yA h) (yA h) fun x=>?_
  show _=xV (zm A L S) x
  rw [yP h,yP h]
  by_cases e:x=n
  ·
   subst e; rw [hh]; rfl
  ·
   unfold xl; rw [(ho x e).1,(ho x e).2]
 | some a =>
  refine ext11 (yA h) (yJ (yA h) n _) fun x=>?_
  show _=xV (yB (zm A L S) n (f (xl L S n a))) x
  rw [yP h,fS (yA h),yP h]
  by_cases e:x=n
  ·
   subst e; rw [if_pos rfl,hh,← hn a hh]; rfl
  ·
   rw [if_neg e]; unfold xl; rw [(ho x e).1,(ho x e).2]

theorem Jw {A:zt} {n:List UInt8} {a:List UInt8×Bool} (hf:A.length≤12) (h:zE A n=true):(yB A n a).length≤12:=Nat.le_trans (FV a h) hf
theorem zs.put (h:zs A L S k) {n:List UInt8} {a:List UInt8×Bool} (hn:zf n=true) (ha:zL a.1=true) (hf:(yB A n a).length≤12):zs (yB A n a) L S (k+1):=by
 have hk:∀ x,zE A x=true→zE (yB A n a) x=true:=fun x hx=>qL.2 (.inr hx)
 refine ⟨yJ h.rise n a,hf,fun p hp=>?_,h.mir,h.all,fun x hx=>hk _ (h.has x hx),Nat.le_succ_of_le h.lfew,h.grp.mono (Nat.le_succ _),fun g m hm=>hk _ (h.mem g m hm)⟩
 rcases yf.1 hp with rfl | ⟨hp,_⟩
 ·
  exact ⟨hn,ha⟩
 ·
  exact h.nm p hp
theorem zs.mono (h:zs A L S k) {j:Nat} (hj:k≤j):zs A L S j:=⟨h.rise,h.few,h.nm,h.mir,h.all,h.has,Nat.le_trans h.lfew hj,h.grp.mono hj,h.mem⟩

def Uo (A':zt) (L':zg) (S':zj) (l':xI) (N':List (List UInt8)) (k:Nat):Prop:=zs A' L' S' k∧zm A' L' S'=l'∧zb S'=N'
theorem UX {a b c d:Bool} (h:Fh a b c d=0):a=true∧b=true∧c=false∧d=false:=by revert h; cases a <;> cases b <;> cases c <;> cases d <;> decide
theorem Uv {a b c d:Bool} (h:Jq a b c d=0):a=true∧b=true∧c=true∧d=false:=by revert h; cases a <;> cases b <;> cases c <;> cases d <;> decide
theorem FK {a b c d:Bool} (h:Jo a b c d=0):a=true∧b=true∧c=true∧d=false:=by revert h; cases a <;> cases b <;> cases c <;> cases d <;> decide

theorem Fg (n h:List UInt8):dcrE (zm A L S) n h=Vd A n h:=by unfold dcrE Vd; rw [qD,uy]
theorem cr_one (hg:zs A L S k) (n h:List UInt8):Uo (crA11 A n h) L S (dcrL (zm A L S) n h) (zb S) (k+1):=by
 unfold crA11 dcrL
 rw [Fg]
 by_cases e:Vd A n h=0
 ·
  rw [if_pos e,if_pos e]
  obtain ⟨h1,h2,h3,h4⟩:=UX e
  rw [decide_eq_false_iff_not] at h4
  have hf:(yB A n (h,false)).length≤12:=by have:=VK A n (h,false); omega
  refine ⟨hg.put h1 h2 hf,?_,rfl⟩
  rw [Ut hg.rise]
  obtain ⟨_,f2,f3⟩:=hg.free h3
  unfold xl
  rw [f2,f3]
 ·
  rw [if_neg e,if_neg e]
  exact ⟨hg.mono (Nat.le_succ _),rfl,rfl⟩
theorem YV (n:List UInt8):ddeE (zm A L S) n=uQ A n:=by unfold ddeE uQ; rw [qD]
theorem de_one (hg:zs A L S k) (n:List UInt8) (e:uQ A n=0):Uo (vR A n) (xH L n) (uK S n) (ddeL (zm A L S) n) (zb S) (k+1):=by
 unfold ddeL
 rw [YV,if_pos e]
 have hk:∀ x,x≠n→zE A x=true→zE (vR A n) x=true:=fun x hx h=>jY.2 ⟨h,hx⟩
 have hm:∃ M,zS (xH L n) M:=by
  obtain ⟨M,hM⟩:=hg.mir
  cases hh:yb L n with
  | true=>exact ⟨_,hM.del hh⟩
  | false=>rw [xW hh]; exact ⟨M,hM⟩
 refine ⟨⟨xc hg.rise n,Nat.le_trans (U7 A n) hg.few,fun p hp=>hg.nm p (xQ.1 hp).1,hm,fun x hx=>hg.all x (yn.1 hx).1,fun x hx=>hk _ (yn.1 hx).2 (hg.has x (yn.1 hx).1),Nat.le_succ_of_le (Nat.le_trans (List.length_filter_le _ _) hg.lfew),(fR hg.grp n).mono (Nat.le_succ _),fun g m h=>?_⟩,?_,vM (fun v=>vR v n) S⟩
 ·
  have:=(XT hg.grp n g m).1 h
  exact hk _ this.2 (hg.mem g m this.1)
 ·
  refine ext11 (yA (xc hg.rise n)) (xc (yA hg.rise) n) fun x=>?_
  rw [yP (xc hg.rise n),XY hg.rise,XY (yA hg.rise),yP hg.rise]
  by_cases e:x=n
  ·
   subst e; rw [if_pos rfl,if_pos rfl]; rfl
  ·
   rw [if_neg e,if_neg e]; unfold xl; rw [fb,if_neg e,JC hg.grp,if_neg e]
theorem Jp (hg:zs A L S k) (n h:List UInt8):dshE (zm A L S) n h=Xk A n h:=by unfold dshE Xk; rw [qD,FF hg]
theorem sh_one (hg:zs A L S k) (n h:List UInt8):Uo (FO A n h) L S (dshL (zm A L S) n h) (zb S) (k+1):=by
 unfold FO dshL
 rw [Jp hg]
 by_cases e:Xk A n h=0
 ·
  rw [if_pos e,if_pos e]
  obtain ⟨h1,h2,h3,h4⟩:=Uv e
  refine ⟨hg.put h1 h2 (Jw hg.few h3),?_,rfl⟩
  obtain ⟨a,ha⟩:=YM h3
  rw [Ut hg.rise]
  unfold setU uP
  rw [yP hg.rise,ha]
  rfl
 ·
  rw [if_neg e,if_neg e]
  exact ⟨hg.mono (Nat.le_succ _),rfl,rfl⟩
end

section
variable {A:zt} {L:zg} {S:zj} {k:Nat}
theorem QK {n a:List UInt8} (h:yF L n=a) (ha:a≠[]):(n,a)∈L:=by
 cases hh:yb L n with
 | true=>have:=xz hh; rwa [h] at this
 | false=>rw [yC hh] at h; exact absurd h.symm ha
theorem fold_ne {m:List UInt8} (h:yS m=true):zD m≠[]:=fun e=>by
 have:=jA m
 rw [e,h,JL] at this; cases this
theorem bad_same (hg:zs A L S k) (n:List UInt8) {a:List UInt8} (ha:a≠[]):badU (zm A L S) n a=X7 L n a:=by
 obtain ⟨M,hM⟩:=hg.mir
 rw [Bool.eq_iff_iff]
 unfold badU X7
 simp only [List.any_eq_true,Bool.and_eq_true,Bool.not_eq_true',beq_eq_false_iff_ne,beq_iff_eq,decide_eq_true_eq]
 constructor
 ·
  rintro ⟨p,hp,⟨_,h2⟩,h3⟩
  obtain ⟨q,hq,rfl⟩:=List.mem_map.1 hp
  have h4:(q.1,a)∈L:=QK h2 ha
  exact ⟨qH h4,by rw [hM.own h4]; exact h3⟩
 ·
  rintro ⟨h1,h2⟩
  have h3:=qM h1
  obtain ⟨p,hp,e⟩:=xf.1 (hg.has _ h3)
  refine ⟨_,List.mem_map.2 ⟨p,hp,rfl⟩,⟨ha,?_⟩,?_⟩
  ·
   show yF L p.1=a
   rw [e]; exact qo hg.lrise h3
  ·
   show ¬ p.1=n
   rw [e]; exact h2
theorem Jn (hg:zs A L S k) (n m:List UInt8):dsmE (zm A L S) n m=jN A L n m:=by
 unfold dsmE jN
 rw [qD]
 cases h1:zf n with
 | false=>rfl
 | true =>
  by_cases hm:m=[]
  ·
   subst hm
   have:badU (zm A L S) n (vj [])=decide (uW L n []=9):=by
    have e1:vj []=[]:=rfl
    rw [e1]
    have e2:uW L n []=0:=by unfold uW; rw [if_pos h1,if_pos rfl]
    rw [e2]
    unfold badU
    rw [List.any_eq_false.2 (fun p _=>by simp)]
    rfl
   rw [this]
  ·
   cases h2:yS m with
   | false =>
    have:uN m=false:=by unfold uN; rw [h2,decide_eq_false hm]; rfl
    rw [this]; rfl
   | true =>
    have e1:vj m=zD m:=by unfold vj; rw [if_pos h2]
    rw [e1,bad_same hg n (fold_ne h2)]
    have:decide (uW L n m=9)=X7 L n (zD m):=by
     unfold uW
     rw [if_pos h1,if_neg hm,if_pos h2]
     cases X7 L n (zD m) <;> rfl
    rw [this]
theorem FL {n m:List UInt8} (h:jN A L n m=0):zf n=true∧uN m=true∧zE A n=true∧uW L n m=0∧(m≠[]→X7 L n (zD m)=false∧yS m=true):=by
 obtain ⟨h1,h2,h3,h4⟩:=FK h
 rw [decide_eq_false_iff_not] at h4
 refine ⟨h1,h2,h3,?_⟩
 unfold uW at h4 ⊢
 rw [if_pos h1] at h4 ⊢
 by_cases hm:m=[]
 ·
  rw [if_pos hm]; exact ⟨rfl,fun h=>absurd hm h⟩
 ·
  have h5:yS m=true:=by unfold uN at h2; rw [decide_eq_false hm,Bool.false_or] at h2; exact h2
  rw [if_neg hm,if_pos h5] at h4 ⊢
  cases hb:X7 L n (zD m) with
  | true=>rw [hb] at h4; exact absurd rfl h4
  | false=>exact ⟨rfl,fun _=>⟨rfl,h5⟩⟩
theorem sm_one (hg:zs A L S k) (n m:List UInt8):Uo A (Qe A L n m) S (dsmL (zm A L S) n m) (zb S) (k+1):=by
 unfold Qe dsmL
 rw [Jn hg]
 by_cases e:jN A L n m=0
 case neg=>rw [if_neg e,if_neg e]; exact ⟨hg.mono (Nat.le_succ _),rfl,rfl⟩
 rw [if_pos e,if_pos e]
 obtain ⟨h1,h2,h3,h4,h5⟩:=FL e
 unfold Xl
 rw [if_pos h4]
 obtain ⟨M,hM⟩:=hg.mir
 have hd:∃ M,zS (xH L n) M:=by
  cases hh:yb L n with
  | true=>exact ⟨_,hM.del hh⟩
  | false=>rw [xW hh]; exact ⟨M,hM⟩
 by_cases hm:m=[]
 ·
  subst hm
  rw [if_pos rfl]
  refine ⟨⟨hg.rise,hg.few,hg.nm,hd,fun x hx=>hg.all x (yn.1 hx).1,fun x hx=>hg.has x (yn.1 hx).1,Nat.le_succ_of_le (Nat.le_trans (List.length_filter_le _ _) hg.lfew),hg.grp.mono (Nat.le_succ _),hg.mem⟩,?_,rfl⟩
  refine Uu hg.rise (fun x hx=>⟨by rw [fb,if_neg hx],rfl⟩) (fun a _=>?_)
  show xl (xH L n) S n a={ xl L S n a with ml:=[] }
  unfold xl
  rw [fb,if_pos rfl]
 ·
  rw [if_neg hm]
  obtain ⟨h6,h7⟩:=h5 hm
  have hput:∃ M,zS (yR L n (zD m)) M:=by
   obtain ⟨M',hM'⟩:=hd
   rw [← Jv hg.lrise]
   exact ⟨_,hM'.put (YL L n) (free9 hM h6)⟩
  refine ⟨⟨hg.rise,hg.few,hg.nm,hput,fun x hx=>?_,fun x hx=>?_,?_,hg.grp.mono (Nat.le_succ _),hg.mem⟩,?_,rfl⟩
  ·
   rcases xx.1 hx with rfl | ⟨hx,_⟩
   ·
    exact May9.of h1 h7
   ·
    exact hg.all x hx
  ·
   rcases xx.1 hx with rfl | ⟨hx,_⟩
   ·
    exact h3
   ·
    exact hg.has x hx
  ·
   rw [xm hg.lrise]
   have:=hg.lfew
   split <;> omega
  ·
   refine Uu hg.rise (fun x hx=>⟨by rw [YN hg.lrise,if_neg hx],rfl⟩) (fun a _=>?_)
   show xl (yR L n (zD m)) S n a={ xl L S n a with ml:=vj m }
   unfold xl vj
   rw [YN hg.lrise,if_pos rfl,if_pos h7]


theorem Jk {S':zj} (h:∀ n,yX S' n=yX S n):zm A L S'=zm A L S:=by
 unfold zm xl
 exact List.map_congr_left fun p _=>by rw [h]
theorem JM (g:List UInt8):F5 (zb S) g=uM S g:=by
 obtain h:fO (zb S) g=zE S g:=by rw [Bool.eq_iff_iff,jZ,yo]
 unfold F5 uM
 rw [h,ym]
theorem ma_one (hg:zs A L S k) (g:List UInt8):Uo A L (qj S g) (zm A L S) (F3 (zb S) g) (k+1):=by
 by_cases e:uM S g=0
 case neg =>
  unfold F3 qj
  rw [JM,if_neg e,if_neg e]; exact ⟨hg.mono (Nat.le_succ _),rfl,rfl⟩
 refine ⟨⟨hg.rise,hg.few,hg.nm,hg.mir,hg.all,hg.has,Nat.le_succ_of_le hg.lfew,(XX hg.grp g).mono (Nat.le_succ _),fun x n h=>?_⟩,Jk (of_make hg.grp e),?_⟩
 ·
  rw [JP hg.grp e] at h; exact hg.mem x n h
 ·
  obtain ⟨M,hM⟩:=rel11 hg.grp.rise
  have:=(hM.make hg.grp e).names
  unfold F3
  rw [JM,if_pos e,this]
end
end Go.Proofs.YthmomkjingcbiaaGreatDoor
namespace Go.Proofs.YthmomkjingcbiaaGreatDoor
open Go.RowKit Go.Maps
set_option linter.unusedSectionVars false

/-! ### accounts -/
def JZ:List UInt8×Bool→DataW Unit:=fun a=>.agg [.lit (.string a.1),.lit (.bool a.2)]
def rdA11:List Value→Option (DataW Unit×List MemPlace)
 | [.string s,.bool b]=>some (.agg [.lit (.string s.data.toList),.lit (.bool b)],[])
 | _=>none
def RA11:Value→Option (DataW Unit×List MemPlace)
 | .agg c=>rdA11 c.toList
 | _=>none
theorem FT {v:Value} {z:DataW Unit×List MemPlace} (h:RA11 v=some z):∃ s b,v=.agg #[.string s,.bool b]∧z=(JZ (s.data.toList,b),[]):=by
 unfold RA11 at h
 split at h
 ·
  rename_i c
  unfold rdA11 at h
  split at h
  ·
   rename_i s b hc
   injection h with h
   refine ⟨s,b,?_,h.symm⟩
   have:c=[Value.string s,Value.bool b].toArray:=by rw [← hc]
   rw [this]
  ·
   cases h
 ·
  cases h
theorem VJ (s:ByteArray) (b:Bool):RA11 (.agg #[.string s,.bool b])=some (JZ (s.data.toList,b),[]):=rfl
def zW (w:World) (P:Nat) (A:zt):Prop:=w.ownsMap Tryz.prog 9 RA11 P A.length (vp JZ A)
theorem zW.of {w:World} {P n:Nat} {A:zt} (h:w.ownsMap Tryz.prog 9 RA11 P n (vp JZ A)):zW w P A:=by
 have:=vh h
 rwa [vk] at this
theorem zW.kept {w w':World} {P:Nat} {A:zt} (h:zW w P A) (hb:w'.heap[P]? = w.heap[P]?):zW w' P A:=by
 obtain ⟨es,clock,h1,r⟩:=h
 exact ⟨es,clock,hb.trans h1,r⟩
theorem zW.lt {w:World} {P:Nat} {A:zt} (h:zW w P A):P<w.heap.size:=World.ownsMap.lt h
theorem fh (w:World):(zeroValue 147).run Tryz.prog w=.ok (.agg #[.string ⟨#[]⟩,.bool false]) w:=by kernel_rfl
theorem at_acc11 (A:zt) (k:List UInt8):(vp JZ A).atKey (.string k) (JZ ([],false))=JZ (Zm A k,uP A k):=by
 unfold Zm uP
 cases h:xV A k with
 | none=>rw [X4 _ h]
 | some v=>rw [fd _ h]
theorem Uk (w:World):zW (w.alloc (.map #[] 0)) w.heap.size [] :=
 zW.of (n:=0) (World.ownsMap_made (H:=Unit) w Tryz.prog 9 RA11)
def av11 (A:zt) (k:List UInt8):Value:=.agg #[.string (zY (Zm A k)),.bool (uP A k)]
section
variable {w:World} {P:Nat} {A:zt}
theorem Fp {s:ByteArray} {v:Value} {ps:List MemPlace} (hv:RA11 v=some ((vp JZ A).atKey (.string s.data.toList) (JZ ([],false)),ps)):v=av11 A s.data.toList:=by
 obtain ⟨c,b,rfl,hc⟩:=FT hv
 rw [at_acc11] at hc
 injection hc with hc _
 unfold JZ at hc
 injection hc with hc
 injection hc with h1 h2
 injection h1 with h1
 injection h1 with h1
 injection h2 with h2 _
 injection h2 with h2
 injection h2 with h2
 have h1':Zm A s.data.toList=c.data.toList:=h1
 have h2':uP A s.data.toList=b:=h2
 unfold av11
 rw [h1',h2',ue]
theorem lookA11 (h:zW w P A) (s:ByteArray) (hs:s.size≤maxLen) :
  (Instr.lookup 102 (.map (some P)) (.string s) true).run Tryz.prog w=.ok (.tuple #[av11 A s.data.toList,.bool (zE A s.data.toList)]) w:=by
 obtain ⟨v,ps,hrun,hv⟩:=World.ownsMap.look_ok h xe Tryz.underlying102 (fh w) (VJ ⟨#[]⟩ false) (jP s hs)
 rw [hrun,fc,Fp hv]
theorem lookA111 (h:zW w P A) (s:ByteArray) (hs:s.size≤maxLen) :
  (Instr.lookup 102 (.map (some P)) (.string s) false).run Tryz.prog w=.ok (av11 A s.data.toList) w:=by
 obtain ⟨v,ps,hrun,hv⟩:=World.ownsMap.lookup h xe Tryz.underlying102 (fh w) (VJ ⟨#[]⟩ false) (jP s hs)
 rw [hrun,Fp hv]
theorem lenA11 (h:zW w P A) (ty:TypeId):(Builtin.len_ #[102] ty #[.map (some P)]).run Tryz.prog w=.ok (.int .i64 A.length) w:=by
 have:=World.ownsMap.len h (t:=102) Tryz.underlying102 ty
 rwa [vk] at this
theorem FG (h:zW w P A) (hf:A.length≤1000) (s v:ByteArray) (b:Bool) (hs:s.size≤maxLen) :
  ∃ w',(Instr.mapUpdate 102 (.map (some P)) (.string s) (.agg #[.string v,.bool b])).run Tryz.prog w=.ok () w'∧zW w' P (yB A s.data.toList (v.data.toList,b))∧w.mapTurned w' P:=by
 obtain ⟨w',hrun,hown,ht⟩:=World.ownsMap.store h xe Tryz.underlying102 (Nat.lt_of_le_of_lt hf (by decide)) (jP s hs) (VJ v b)
 rw [YW] at hown
 exact ⟨w',hrun,zW.of hown,ht⟩
theorem dropA11 (h:zW w P A) (s:ByteArray) (hs:s.size≤maxLen) (ty:TypeId) :
  ∃ w',(Builtin.delete_ #[102,9] ty #[.map (some P),.string s]).run Tryz.prog w=.ok (.tuple #[]) w'∧zW w' P (vR A s.data.toList)∧w.mapTurned w' P:=by
 obtain ⟨w',hrun,hown,ht⟩:=World.ownsMap.drop h xe Tryz.underlying102 (jP s hs) ty
 rw [US] at hown
 exact ⟨w',hrun,zW.of hown,ht⟩
end

/-! ### the directory -/
def vY (M:Nat) (p q:Option Nat) (i:Nat):Prop:=i=M∨p=some i∨q=some i
def vZ (G:Nat) (pg:Option Nat) (T:zp) (i:Nat):Prop:=i=G∨pg=some i∨∃ x∈T,x.2.1=i
structure xh (w:World) (D P:Nat) (A:zt) (M:Nat) (p q:Option Nat) (L LM:zg) (G:Nat) (pg:Option Nat) (T:zp):Prop where
 blk:w.heap[D]? = some (.cells #[.map (some P),.pointer (some ⟨M,0,none⟩),.pointer (some ⟨G,0,none⟩)] 108 (0,0))
 acc:zW w P A
 idx:va w M p q L LM
 grp:zF w G pg T
 sep1:∀ i,vY M p q i→i≠P
 sep2:∀ i,vZ G pg T i→i≠P
 sep3:∀ i,vY M p q i→vZ G pg T i→False

def zN (W w':World):Prop:=∀ (k:Nat) (c:Array Value) (T:TypeId) (fr:Nat×Nat),W.heap[k]? = some (.cells c T fr)→T≠108→T≠164→T≠167→w'.heap[k]? = some (.cells c T fr)
theorem zN.of_below {W w':World} (hb:Below W.heap.size W w'):zN W w':=fun k _ _ _ h _ _ _=>(hb.block k (Array.getElem?_eq_some_iff.1 h).1).trans h
theorem zN.trans {a b c:World} (h:zN a b) (k:zN b c):zN a c:=fun i x T fr hi h1 h2 h3=>k i x T fr (h i x T fr hi h1 h2 h3) h1 h2 h3
theorem zN.refl (w:World):zN w w:=fun _ _ _ _ h _ _ _=>h

section
variable {w w':World} {D P M G:Nat} {A A':zt} {p q pg:Option Nat} {L LM L':zg} {T:zp}
theorem xh.lt (h:xh w D P A M p q L LM G pg T):D<w.heap.size:=(Array.getElem?_eq_some_iff.1 h.blk).1
theorem uG {b c:Nat} {x y:Array Value} {X Y:TypeId} {f g:Nat×Nat} (hb:w.heap[b]? = some (.cells x X f)) (hc:w.heap[c]? = some (.cells y Y g)) (hne:X≠Y):b≠c:=fun e=>by
 subst e; rw [hb] at hc; injection hc with hc; injection hc with _ h; exact hne h
theorem ff {c:Array Value} {X:TypeId} {fr:Nat×Nat} {B:Nat} (h:zW w P A) (hB:w.heap[B]? = some (.cells c X fr)):P≠B:=zO h hB
theorem qN (h:va w M p q L LM) {B:Nat} {c:Array Value} {X:TypeId} {fr:Nat×Nat} (hB:w.heap[B]? = some (.cells c X fr)) (hX:X≠164):¬ vY M p q B:=by
 rintro (e | e | e)
 ·
  exact uG hB h.blk hX e
 ·
  exact vw (h.mapp.map B e) hB rfl
 ·
  exact vw (h.mapq.map B e) hB rfl
theorem qO (h:zF w G pg T) {B:Nat} {c:Array Value} {X:TypeId} {fr:Nat×Nat} (hB:w.heap[B]? = some (.cells c X fr)) (hX:X≠167):¬ vZ G pg T B:=by
 rintro (e | e | ⟨x,hx,e⟩)
 ·
  exact uG hB h.blk hX e
 ·
  exact zO (h.map B e) hB rfl
 ·
  subst e; exact zO (h.sets x hx) hB rfl
theorem fpM_lt (h:va w M p q L LM) {i:Nat} (hi:vY M p q i):i<w.heap.size:=by
 rcases hi with rfl | e | e
 ·
  exact h.lt
 ·
  exact h.plt i e
 ·
  exact h.qlt i e
theorem fpG_lt (h:zF w G pg T) {i:Nat} (hi:vZ G pg T i):i<w.heap.size:=by
 rcases hi with rfl | e | ⟨x,hx,rfl⟩
 ·
  exact h.lt
 ·
  exact h.mlt i e
 ·
  exact h.slt x hx
theorem va.turnsF {F:Nat→Prop} (h:va w M p q L LM) (ht:zc F w w') (hn:∀ i,vY M p q i→¬ F i):va w' M p q L LM :=
 h.turns ht (hn M (.inl rfl)) (fun b e=>hn b (.inr (.inl e))) (fun b e=>hn b (.inr (.inr e)))
theorem zF.turnsF {F:Nat→Prop} (h:zF w G pg T) (ht:zc F w w') (hn:∀ i,vZ G pg T i→¬ F i):zF w' G pg T :=
 h.turns ht (hn G (.inl rfl)) (fun b e=>hn b (.inr (.inl e))) (fun x hx=>hn _ (.inr (.inr ⟨x,hx,rfl⟩)))
theorem xh.later (h:xh w D P A M p q L LM G pg T) (hb:Below w.heap.size w w'):xh w' D P A M p q L LM G pg T :=
 ⟨(hb.block D h.lt).trans h.blk,h.acc.kept (hb.block P h.acc.lt),h.idx.later hb,h.grp.later hb,h.sep1,h.sep2,h.sep3⟩
theorem xh.accs (h:xh w D P A M p q L LM G pg T) (ha:zW w' P A') (ht:zc (fun i=>i=P) w w'):xh w' D P A' M p q L LM G pg T :=
 ⟨(ht.block D h.lt (fun e=>ff h.acc h.blk e.symm)).trans h.blk,ha,h.idx.turnsF ht h.sep1,h.grp.turnsF ht h.sep2,h.sep1,h.sep2,h.sep3⟩
theorem QG (h:xh w D P A M p q L LM G pg T) (ht:zc (fun i=>i=P) w w'):zN w w':=fun k _ _ _ hk _ _ _ =>
 (ht.block k (Array.getElem?_eq_some_iff.1 hk).1 (fun e=>ff h.acc hk e.symm)).trans hk
theorem xh.mails (h:xh w D P A M p q L LM G pg T) (hg:vD w M p q L' w'):∃ p' q' LM',xh w' D P A M p' q' L' LM' G pg T∧∀ i,vY M p' q' i→vY M p q i∨w.heap.size≤i:=by
 obtain ⟨p',q',M',hi,hp,hq,ht⟩:=hg
 have hf:∀ i,vY M p' q' i→vY M p q i∨w.heap.size≤i:=by
  rintro i (rfl | e | e)
  ·
   exact .inl (.inl rfl)
  ·
   exact (hp i e).imp (fun h=>.inr (.inl h)) id
  ·
   exact (hq i e).imp (fun h=>.inr (.inr h)) id
 have ht':zc (vY M p q) w w':=ht
 refine ⟨p',q',M',⟨(ht'.block D h.lt (qN h.idx h.blk (by decide))).trans h.blk,h.acc.kept (ht'.block P h.acc.lt (fun f=>h.sep1 P f rfl)),hi,h.grp.turnsF ht' (fun i g f=>h.sep3 i f g),fun i f=>?_,h.sep2,fun i f g=>?_⟩,hf⟩
 ·
  rcases hf i f with f | f
  ·
   exact h.sep1 i f
  ·
   have:=h.acc.lt; omega
 ·
  rcases hf i f with f | f
  ·
   exact h.sep3 i f g
  ·
   have:=fpG_lt h.grp g; omega
theorem fJ (h:xh w D P A M p q L LM G pg T) (hg:vD w M p q L' w'):zN w w':=by
 obtain ⟨_,_,_,_,_,_,ht⟩:=hg
 exact fun k c X fr hk _ h2 _=>(zc.block ht k (Array.getElem?_eq_some_iff.1 hk).1 (qN h.idx hk h2)).trans hk
theorem xh.grps (h:xh w D P A M p q L LM G pg T) {S':zj} (hg:yh w G pg T S' w'):∃ pg' T',xh w' D P A M p q L LM G pg' T'∧zh T'=S'∧∀ i,vZ G pg' T' i→vZ G pg T i∨w.heap.size≤i:=by
 obtain ⟨p',T',hi,hS,hp,hx,ht⟩:=hg
 have hf:∀ i,vZ G p' T' i→vZ G pg T i∨w.heap.size≤i:=by
  rintro i (rfl | e | ⟨x,hxx,rfl⟩)
  ·
   exact .inl (.inl rfl)
  ·
   exact (hp i e).imp (fun h=>.inr (.inl h)) id
  ·
   rcases hx x hxx with ⟨y,hy,e⟩ | h
   ·
    exact .inl (.inr (.inr ⟨y,hy,e⟩))
   ·
    exact .inr h
 have ht':zc (vZ G pg T) w w':=ht
 refine ⟨p',T',⟨(ht'.block D h.lt (qO h.grp h.blk (by decide))).trans h.blk,h.acc.kept (ht'.block P h.acc.lt (fun f=>h.sep2 P f rfl)),h.idx.turnsF ht' (fun i f g=>h.sep3 i f g),hi,h.sep1,fun i f=>?_,fun i f g=>?_⟩,hS,hf⟩
 ·
  rcases hf i f with f | f
  ·
   exact h.sep2 i f
  ·
   have:=h.acc.lt; omega
 ·
  rcases hf i g with g | g
  ·
   exact h.sep3 i f g
  ·
   have:=fpM_lt h.idx f; omega
theorem QF (h:xh w D P A M p q L LM G pg T) {S':zj} (hg:yh w G pg T S' w'):zN w w':=by
 obtain ⟨_,_,_,_,_,_,ht⟩:=hg
 exact fun k c X fr hk _ _ h3=>(zc.block ht k (Array.getElem?_eq_some_iff.1 hk).1 (qO h.grp hk h3)).trans hk
end

class Fr11 where
 F:Nat→Prop
 ob:Nat→Option Obj
 n:Nat
 lt:∀ i,F i→i<n
 ty:∀ i c T fr,F i→ob i=some (.cells c T fr)→T=108∨T=164∨T=167
instance noFr11:Fr11:=⟨fun _=>False,fun _=>none,0,fun _ h=>h.elim,fun _ _ _ _ h=>h.elim⟩
def Lo11 [Fr11] (w0:World) (i:Nat):Prop:=w0.heap.size≤i∧¬ Fr11.F i
def Fk11 [Fr11] (W:World):Prop:=Fr11.n≤W.heap.size∧∀ i,Fr11.F i→W.heap[i]? = Fr11.ob i
def Zw [Fr11] (w0 W:World):Prop:=Below w0.heap.size w0 W∧Fk11 W
section
variable [Fr11] {w0 W W':World}
theorem Fk11.later (h:Fk11 W) (hb:Below W.heap.size W W'):Fk11 W':=⟨Nat.le_trans h.1 hb.size,fun i hi=>(hb.block i (Nat.lt_of_lt_of_le (Fr11.lt i hi) h.1)).trans (h.2 i hi)⟩
theorem Fk11.turn {S:Nat→Prop} (h:Fk11 W) (ht:zc S W W') (hs:∀ i,S i→¬ Fr11.F i):Fk11 W':=⟨Nat.le_trans h.1 ht.size,fun i hi=>(ht.block i (Nat.lt_of_lt_of_le (Fr11.lt i hi) h.1) (fun e=>hs i e hi)).trans (h.2 i hi)⟩
theorem Fk11.not (h:Fk11 W) {i:Nat} {c:Array Value} {T:TypeId} {fr:Nat×Nat} (hi:W.heap[i]? = some (.cells c T fr)) (h1:T≠108) (h2:T≠164) (h3:T≠167):¬ Fr11.F i:=fun f=>by
 rcases Fr11.ty i c T fr f ((h.2 i f).symm.trans hi) with h | h | h
 ·
  exact h1 h
 ·
  exact h2 h
 ·
  exact h3 h
theorem Zw.later (h:Zw w0 W) (hb:Below W.heap.size W W'):Zw w0 W':=⟨z7 h.1 hb,h.2.later hb⟩
theorem Zw.turn {S:Nat→Prop} (h:Zw w0 W) (ht:zc S W W') (hs:∀ i,S i→Lo11 w0 i):Zw w0 W':=⟨h.1.trans (zc.below_at ht h.1.size (fun i e=>(hs i e).1)),h.2.turn ht (fun i e=>(hs i e).2)⟩
theorem Zw.new (h:Zw w0 W) {i:Nat} (hi:W.heap.size≤i):Lo11 w0 i:=⟨Nat.le_trans h.1.size hi,fun f=>by have:=Fr11.lt i f; have:=h.2.1; omega⟩
end

def zl [Fr11] (w0 W:World) (D P M G:Nat) (A:zt) (L:zg) (S:zj):Prop :=
 ∃ p q LM pg T,xh W D P A M p q L LM G pg T∧zh T=S∧(∀ i,i=D∨i=P∨vY M p q i∨vZ G pg T i→Lo11 w0 i)∧Zw w0 W
def zK [Fr11] (w0 W:World) (D P M G:Nat) (A:zt) (L:zg) (S:zj) (w':World):Prop:=zl w0 w' D P M G A L S∧zN W w'
section
variable [Fr11] {w0 W W':World} {D P M G:Nat} {A A':zt} {L L':zg} {S S':zj}
theorem zl.bel (h:zl w0 W D P M G A L S):Zw w0 W:=by obtain ⟨_,_,_,_,_,_,_,_,h⟩:=h; exact h
theorem zl.below (h:zl w0 W D P M G A L S):Below w0.heap.size w0 W:=h.bel.1
theorem zl.later (h:zl w0 W D P M G A L S) (hb:Below W.heap.size W W'):zl w0 W' D P M G A L S:=by
 obtain ⟨p,q,LM,pg,T,hd,hS,h2,h3⟩:=h
 exact ⟨p,q,LM,pg,T,hd.later hb,hS,h2,h3.later hb⟩
theorem zl.still (h:zl w0 W D P M G A L S) (hb:Below W.heap.size W W'):zK w0 W D P M G A L S W':=⟨h.later hb,zN.of_below hb⟩
theorem zK.ahead {W1:World} (hb:Below W.heap.size W W1) (h:zK w0 W1 D P M G A L S W'):zK w0 W D P M G A L S W':=⟨h.1,(zN.of_below hb).trans h.2⟩
theorem zK.next {W1:World} {A1:zt} {L1:zg} {S1:zj} (h1:zK w0 W D P M G A1 L1 S1 W1) (h:zK w0 W1 D P M G A L S W'):zK w0 W D P M G A L S W':=⟨h.1,h1.2.trans h.2⟩
theorem zl.c0 (h:zl w0 W D P M G A L S):W.cell? ⟨D,0,none⟩=some (.map (some P)):=by
 obtain ⟨p,q,LM,pg,T,hd,_⟩:=h
 simp [World.cell?,hd.blk]
theorem zl.c1 (h:zl w0 W D P M G A L S):W.cell? ⟨D,1,none⟩=some (.pointer (some ⟨M,0,none⟩)):=by
 obtain ⟨p,q,LM,pg,T,hd,_⟩:=h
 simp [World.cell?,hd.blk]
theorem zl.c2 (h:zl w0 W D P M G A L S):W.cell? ⟨D,2,none⟩=some (.pointer (some ⟨G,0,none⟩)):=by
 obtain ⟨p,q,LM,pg,T,hd,_⟩:=h
 simp [World.cell?,hd.blk]
theorem zl.look (h:zl w0 W D P M G A L S) (s:ByteArray) (hs:s.size≤9223372036854775807) :
  (Instr.lookup 102 (.map (some P)) (.string s) true).run Tryz.prog W=.ok (.tuple #[av11 A s.data.toList,.bool (zE A s.data.toList)]) W:=by
 obtain ⟨p,q,LM,pg,T,hd,_⟩:=h
 exact lookA11 hd.acc s (Nat.le_trans hs (by decide))
theorem zl.look1 (h:zl w0 W D P M G A L S) (s:ByteArray) (hs:s.size≤9223372036854775807) :
  (Instr.lookup 102 (.map (some P)) (.string s) false).run Tryz.prog W=.ok (av11 A s.data.toList) W:=by
 obtain ⟨p,q,LM,pg,T,hd,_⟩:=h
 exact lookA111 hd.acc s (Nat.le_trans hs (by decide))
theorem zl.lenA (h:zl w0 W D P M G A L S) (ty:TypeId):(Builtin.len_ #[102] ty #[.map (some P)]).run Tryz.prog W=.ok (.int .i64 A.length) W:=by
 obtain ⟨p,q,LM,pg,T,hd,_⟩:=h
 exact lenA11 hd.acc ty
theorem zl.accs (h:zl w0 W D P M G A L S) (ha:zW W' P A') (ht:W.mapTurned W' P):zK w0 W D P M G A' L S W':=by
 obtain ⟨p,q,LM,pg,T,hd,hS,h2,h3⟩:=h
 have ht':zc (fun i=>i=P) W W':=(zc.refl _ W).grown ht.grown (fun k hk _=>by cases hk; rfl)
 exact ⟨⟨p,q,LM,pg,T,hd.accs ha ht',hS,h2,h3.turn ht' (fun i e=>h2 i (.inr (.inl e)))⟩,QG hd ht'⟩
theorem zl.store (h:zl w0 W D P M G A L S) (hf:A.length≤1000) (s v:ByteArray) (b:Bool) (hs:s.size≤9223372036854775807) :
  ∃ w',(Instr.mapUpdate 102 (.map (some P)) (.string s) (.agg #[.string v,.bool b])).run Tryz.prog W=.ok () w'∧zK w0 W D P M G (yB A s.data.toList (v.data.toList,b)) L S w':=by
 have h':=h
 obtain ⟨p,q,LM,pg,T,hd,_⟩:=h'
 obtain ⟨w',hrun,ha,ht⟩:=FG hd.acc hf s v b (Nat.le_trans hs (by decide))
 exact ⟨w',hrun,h.accs ha ht⟩
theorem zl.drop (h:zl w0 W D P M G A L S) (s:ByteArray) (hs:s.size≤9223372036854775807) (ty:TypeId) :
  ∃ w',(Builtin.delete_ #[102,9] ty #[.map (some P),.string s]).run Tryz.prog W=.ok (.tuple #[]) w'∧zK w0 W D P M G (vR A s.data.toList) L S w':=by
 have h':=h
 obtain ⟨p,q,LM,pg,T,hd,_⟩:=h'
 obtain ⟨w',hrun,ha,ht⟩:=dropA11 hd.acc s (Nat.le_trans hs (by decide)) ty
 exact ⟨w',hrun,h.accs ha ht⟩
/-! ### of the addresses -/
theorem zl.mset (h:zl w0 W D P M G A L S) (n m:ByteArray) (hn:n.size≤9223372036854775807) (hm:m.size≤9223372036854775807) (hl:L.length<100) (h5:vQ W) :
  Calls Tryz.prog 221 #[.pointer (some ⟨M,0,none⟩),.string n,.string m] W fun e w'=>e=.returned (.int .i64 (uW L n.data.toList m.data.toList))∧zK w0 W D P M G A (Xl L n.data.toList m.data.toList) S w':=by
 obtain ⟨p,q,LM,pg,T,hd,hS,h2,h3⟩:=h
 refine (Qg M p q L LM n m W hd.idx hn hm hl h5).mono fun e w' ⟨he,hg⟩=>⟨he,?_,fJ hd hg⟩
 obtain ⟨p',q',LM',hd',hf⟩:=hd.mails hg
 obtain ⟨_,_,_,_,_,_,ht⟩:=hg
 refine ⟨p',q',LM',pg,T,hd',hS,fun i hi=>?_,h3.turn ht (fun i e=>h2 i (.inr (.inr (.inl e))))⟩
 rcases hi with e | e | e | e
 ·
  exact h2 i (.inl e)
 ·
  exact h2 i (.inr (.inl e))
 ·
  rcases hf i e with e | e
  ·
   exact h2 i (.inr (.inr (.inl e)))
  ·
   exact h3.new e
 ·
  exact h2 i (.inr (.inr (.inr e)))
theorem zl.goesM (h:zl w0 W D P M G A L S) {p q:Option Nat} {LM:zg} {pg:Option Nat} {T:zp} (hd:xh W D P A M p q L LM G pg T) (hS:zh T=S) (h2:∀ i,i=D∨i=P∨vY M p q i∨vZ G pg T i→Lo11 w0 i) (hg:vD W M p q L' W'):zK w0 W D P M G A L' S W':=by
 have h3:=h.bel
 refine ⟨?_,fJ hd hg⟩
 obtain ⟨p',q',LM',hd',hf⟩:=hd.mails hg
 obtain ⟨_,_,_,_,_,_,ht⟩:=hg
 refine ⟨p',q',LM',pg,T,hd',hS,fun i hi=>?_,h3.turn ht (fun i e=>h2 i (.inr (.inr (.inl e))))⟩
 rcases hi with e | e | e | e
 ·
  exact h2 i (.inl e)
 ·
  exact h2 i (.inr (.inl e))
 ·
  rcases hf i e with e | e
  ·
   exact h2 i (.inr (.inr (.inl e)))
  ·
   exact h3.new e
 ·
  exact h2 i (.inr (.inr (.inr e)))
theorem zl.mdrop (h:zl w0 W D P M G A L S) (n:ByteArray) (hn:n.size≤9223372036854775807) :
  Calls Tryz.prog 120 #[.pointer (some ⟨M,0,none⟩),.string n] W fun e w'=>e=.returned (.bool (yb L n.data.toList))∧zK w0 W D P M G A (xH L n.data.toList) S w':=by
 have h':=h
 obtain ⟨p,q,LM,pg,T,hd,hS,h2,h3⟩:=h'
 refine (qr M p q L LM n W hd.idx (Nat.le_trans hn (by decide))).mono fun e w' ⟨he,⟨M',hi⟩,ht⟩=>⟨he,h.goesM hd hS h2 ?_⟩
 exact ⟨p,q,M',hi,fun _ e=>.inl e,fun _ e=>.inl e,ht⟩
theorem zl.mof (h:zl w0 W D P M G A L S) (n:ByteArray) (hn:n.size≤9223372036854775807) :
  Calls Tryz.prog 131 #[.pointer (some ⟨M,0,none⟩),.string n] W fun e w'=>e=.returned (.tuple #[.string (tx7 (yF L n.data.toList)),.bool (yb L n.data.toList)])∧w'=W:=by
 obtain ⟨p,q,LM,pg,T,hd,_⟩:=h
 exact JD M p q L LM n W hd.idx (Nat.le_trans hn (by decide))
/-! ### of the groups -/
theorem zl.goesG (h:zl w0 W D P M G A L S) {p q:Option Nat} {LM:zg} {pg:Option Nat} {T:zp} (hd:xh W D P A M p q L LM G pg T) (h2:∀ i,i=D∨i=P∨vY M p q i∨vZ G pg T i→Lo11 w0 i) (hg:yh W G pg T S' W'):zK w0 W D P M G A L S' W':=by
 have h3:=h.bel
 refine ⟨?_,QF hd hg⟩
 obtain ⟨pg',T',hd',hS,hf⟩:=hd.grps hg
 obtain ⟨_,_,_,_,_,_,ht⟩:=hg
 refine ⟨p,q,LM,pg',T',hd',hS,fun i hi=>?_,h3.turn ht (fun i e=>h2 i (.inr (.inr (.inr e))))⟩
 rcases hi with e | e | e | e
 ·
  exact h2 i (.inl e)
 ·
  exact h2 i (.inr (.inl e))
 ·
  exact h2 i (.inr (.inr (.inl e)))
 ·
  rcases hf i e with e | e
  ·
   exact h2 i (.inr (.inr (.inr e)))
  ·
   exact h3.new e
theorem few11 {T:zp} {k:Nat} (hg:zH (zh T) k):T.length≤6:=by have:=hg.few; rwa [qf] at this
theorem little11 {T:zp} {k:Nat} (hg:zH (zh T) k) (hk:k≤900):∀ x∈T,x.2.2.length≤1000:=fun x hx=>by
 have:=hg.little (x.1,x.2.2) (List.mem_map.2 ⟨x,hx,rfl⟩)
 exact Nat.le_trans this (by omega)
theorem named11 {T:zp} {k:Nat} (hg:zH (zh T) k):∀ x∈T,x.1.length≤1000:=fun x hx=>by
 have:=vL (hg.named (x.1,x.2.2) (List.mem_map.2 ⟨x,hx,rfl⟩))
 exact Nat.le_trans this (by omega)
variable {k:Nat}
theorem zl.gmake (h:zl w0 W D P M G A L S) (hk:zH S k) (g:ByteArray) (hg:g.size≤9223372036854775807) :
  Calls Tryz.prog 114 #[.pointer (some ⟨G,0,none⟩),.string g] W fun e w'=>e=.returned (.int .i64 (uM S g.data.toList))∧zK w0 W D P M G A L (qj S g.data.toList) w':=by
 have h':=h
 obtain ⟨p,q,LM,pg,T,hd,rfl,h2,h3⟩:=h'
 exact (XL G pg T g W hd.grp (few11 hk) hg).mono fun e w' ⟨he,hgo⟩=>⟨he,h.goesG hd h2 hgo⟩
theorem zl.gjoin (h:zl w0 W D P M G A L S) (hk:zH S k) (h9:k≤900) (g n:ByteArray) (hg:g.size≤9223372036854775807) (hn:n.size≤9223372036854775807) :
  Calls Tryz.prog 162 #[.pointer (some ⟨G,0,none⟩),.string g,.string n] W fun e w'=>e=.returned (.int .i64 (qK S g.data.toList n.data.toList))∧zK w0 W D P M G A L (ql S g.data.toList n.data.toList) w':=by
 have h':=h
 obtain ⟨p,q,LM,pg,T,hd,rfl,h2,h3⟩:=h'
 exact (XN G pg T g n W hd.grp (little11 hk h9) hg hn).mono fun e w' ⟨he,hgo⟩=>⟨he,h.goesG hd h2 hgo⟩
theorem zl.gremove (h:zl w0 W D P M G A L S) (hk:zH S k) (n:ByteArray) (hn:n.size≤9223372036854775807) :
  Calls Tryz.prog 121 #[.pointer (some ⟨G,0,none⟩),.string n] W fun e w'=>e=.returned (.int .i64 ((yX S n.data.toList).length:Nat))∧zK w0 W D P M G A L (uK S n.data.toList) w':=by
 have h':=h
 obtain ⟨p,q,LM,pg,T,hd,rfl,h2,h3⟩:=h'
 have hf:=few11 hk
 exact (Zf G pg T n W hd.grp (by omega) (named11 hk) hn).mono fun e w' ⟨he,hgo⟩=>⟨he,h.goesG hd h2 hgo⟩
theorem zl.gof (h:zl w0 W D P M G A L S) (hk:zH S k) (n:ByteArray) (hn:n.size≤9223372036854775807) :
  Calls Tryz.prog 132 #[.pointer (some ⟨G,0,none⟩),.string n] W (zR (yX S n.data.toList) W):=by
 obtain ⟨p,q,LM,pg,T,hd,rfl,h2,h3⟩:=h
 have hf:=few11 hk
 exact ZQ G pg T n W hd.grp (by omega) hn
theorem zl.gall (h:zl w0 W D P M G A L S) (hk:zH S k):Calls Tryz.prog 123 #[.pointer (some ⟨G,0,none⟩)] W (zR (zb S) W):=by
 obtain ⟨p,q,LM,pg,T,hd,rfl,h2,h3⟩:=h
 have hf:=few11 hk
 exact Ui G pg T W hd.grp (by omega)
end
end Go.Proofs.YthmomkjingcbiaaGreatDoor
namespace Go.Proofs.YthmomkjingcbiaaGreatDoor
open Go.RowKit Go.Maps
set_option linter.unusedSectionVars false

set_option maxRecDepth 100000 in
theorem YP (B n cap:Nat) (es:List Int) (w:World) (hl:n=es.length) (hn:n≤1000) (hc:∀ j (h:j<es.length),w.cell? ⟨B,j,none⟩=some (.int .i64 es[j])) :
  Calls Tryz.prog 51 #[.slice (some ⟨B,0,none⟩) n cap] w fun e w'=>e=.returned (.int .i64 (zu es))∧w'=w:=by
 have HC:=za hc
 have HL:=za hl
 clear hc hl
 generalize hr:zu es=r
 have HR:=za hr
 clear hr
 go_enter Tryz.func51,Tryz.ntmps51
 go_wp2
 go_loopg [4,7] n (fun gg _ s7 wr=>∃ k:Nat,k≤n∧n - k≤gg∧s7=.int .i64 k∧wr=w∧Hid (zu (es.drop k)=r))
 case atStart=>exact ⟨0,Nat.zero_le _,by omega,rfl,rfl,HR⟩
 case round =>
  obtain ⟨k,hk,hg,rfl,rfl,A⟩:=hrel
  by_cases hlt:k<n
  ·
   have hltz:(k:Int)<(n:Int):=by omega
   have hkl:k<es.length:=HL.out ▸ hlt
   have hcell:=HC.out k hkl
   have hA:(if es[k]=0 then zu (es.drop (k+1)) else es[k])=r:=by
    have:=A.out
    rw [List.drop_eq_getElem_cons hkl] at this
    exact this
   generalize es[k]=x at *
   by_cases h0:x=0
   ·
    rw [if_pos h0] at hA
    have HA:=za hA
    clear hA A
    subst h0
    go_wp2
    go_roundg (n - (k+1))
    case measure=>omega
    case rel=>exact ⟨k+1,by omega,by omega,by go_num,rfl,HA⟩
   ·
    rw [if_neg h0] at hA
    subst hA
    clear A
    go_wp2
    go_ret
    exact ⟨rfl,rfl⟩
  ·
   have hltz:¬ (k:Int)<(n:Int):=by omega
   have hA:(0:Int)=r:=by
    have:=A.out
    rw [List.drop_eq_nil_of_le (by have:=HL.out; omega)] at this
    exact this
   subst hA
   clear A
   go_wp2
   go_ret
   exact ⟨rfl,rfl⟩

set_option maxRecDepth 100000 in
theorem xt (b:Bool) (n:Int) (w:World):Calls Tryz.prog 129 #[.bool b,.int .i64 n] w fun e w'=>e=.returned (.int .i64 (ze b n))∧w'=w:=by
 cases b with
 | true =>
  show Calls _ _ _ _ fun e w'=>e=.returned (.int .i64 0)∧w'=w
  go_enter Tryz.func129,Tryz.ntmps129
  go_wp2
  go_ret
  exact ⟨rfl,rfl⟩
 | false =>
  show Calls _ _ _ _ fun e w'=>e=.returned (.int .i64 n)∧w'=w
  go_enter Tryz.func129,Tryz.ntmps129
  go_wp2
  go_ret
  exact ⟨rfl,rfl⟩


theorem jT.first11 {W:World} {v:Value} {es:List Int} (h:jT W v es) (hn:es.length≤1000):Calls Tryz.prog 51 #[v] W fun e w'=>e=.returned (.int .i64 (zu es))∧w'=W:=by
 obtain ⟨G,rfl,_,hc⟩:=h
 exact YP G es.length es.length es W rfl hn hc
theorem uF (W:World) (es:List Int) (t:TypeId) (hn:es.length≤1000):Calls Tryz.prog 51 #[.slice (some ⟨W.heap.size,0,none⟩) es.length es.length] (W.alloc (.cells (es.map (Value.int .i64)).toArray t)) fun e w'=>e=.returned (.int .i64 (zu es))∧w'=W.alloc (.cells (es.map (Value.int .i64)).toArray t) :=
 (fV W es t).first11 hn
set_option maxRecDepth 100000 in
theorem qp (many most:Int) (w:World):Calls Tryz.prog 112 #[.int .i64 many,.int .i64 most] w fun e w'=>e=.returned (.int .i64 (ze (decide (many≤most)) 7))∧w'=w:=by
 have HU:Hid (∀ b W,Calls Tryz.prog 129 #[.bool b,.int .i64 7] W fun e w'=>e=.returned (.int .i64 (ze b 7))∧w'=W):=fun b W=>xt b 7 W
 by_cases h:many≤most
 ·
  have hd:decide (many≤most)=true:=decide_eq_true h
  rw [hd]
  go_enter Tryz.func112,Tryz.ntmps112
  go_wp2_with fail
  with_reducible refine (HU.out _ _).mono ?_
  rintro e w' ⟨rfl,rfl⟩
  go_wp2
  go_ret
  exact ⟨rfl,rfl⟩
 ·
  have hd:decide (many≤most)=false:=decide_eq_false h
  rw [hd]
  go_enter Tryz.func112,Tryz.ntmps112
  go_wp2_with fail
  with_reducible refine (HU.out _ _).mono ?_
  rintro e w' ⟨rfl,rfl⟩
  go_wp2
  go_ret
  exact ⟨rfl,rfl⟩

theorem fieldA11 (s:ByteArray) (b:Bool) (w:World):(Instr.field 147 (.agg #[.string s,.bool b]) 1).run Tryz.prog w=.ok (.bool b) w:=by kernel_rfl
section
variable [Fr11] {w0 w:World} {D P M G:Nat} {A:zt} {L:zg} {S:zj}
set_option maxRecDepth 100000 in
theorem fP (n:ByteArray) (h:zl w0 w D P M G A L S) (hn:n.size≤9223372036854775807):Calls Tryz.prog 130 #[.pointer (some ⟨D,0,none⟩),.string n] w (zQ (zE A n.data.toList) w):=by
 have c0:=h.c0
 have hl:=h.look n hn
 have hz:=fh
 unfold av11 at hl
 have bl:∀ v:ByteArray×Bool,Below w.heap.size w (w.alloc (.cells #[.string v.1,.bool v.2] 147)):=fun v=>z8 (Below.refl _ _) _
 generalize zE A n.data.toList=b at *
 generalize zY (Zm A n.data.toList)=s at *
 generalize uP A n.data.toList=d at *
 clear h
 go_enter Tryz.func130,Tryz.ntmps130
 go_wp2
 go_ret
 refine ⟨rfl,?_⟩
 exact bl (s,d)
set_option maxRecDepth 100000 in
theorem vi (n:ByteArray) (h:zl w0 w D P M G A L S) (hn:n.size≤9223372036854775807):Calls Tryz.prog 53 #[.pointer (some ⟨D,0,none⟩),.string n] w (zP (ze (zE A n.data.toList) 8) w):=by
 have HU:Hid (∀ b W,Calls Tryz.prog 129 #[.bool b,.int .i64 8] W fun e w'=>e=.returned (.int .i64 (ze b 8))∧w'=W):=fun b W=>xt b 8 W
 have HH:=za (fP n h hn)
 clear h
 generalize zE A n.data.toList=b at *
 go_enter Tryz.func53,Tryz.ntmps53
 go_wp2_with fail
 with_reducible refine HH.out.mono ?_
 rintro e w1 ⟨rfl,hb⟩
 have HB:=za hb
 clear hb HH
 go_wp2_with fail
 with_reducible refine (HU.out _ _).mono ?_
 rintro e w2 ⟨rfl,rfl⟩
 go_wp2
 go_ret
 exact ⟨rfl,HB.out⟩
set_option maxRecDepth 100000 in
theorem Zl (n:ByteArray) (h:zl w0 w D P M G A L S) (hn:n.size≤9223372036854775807):Calls Tryz.prog 117 #[.pointer (some ⟨D,0,none⟩),.string n] w (zP (ze (!zE A n.data.toList) 9) w):=by
 have HU:Hid (∀ b W,Calls Tryz.prog 129 #[.bool b,.int .i64 9] W fun e w'=>e=.returned (.int .i64 (ze b 9))∧w'=W):=fun b W=>xt b 9 W
 have HH:=za (fP n h hn)
 clear h
 generalize zE A n.data.toList=b at *
 go_enter Tryz.func117,Tryz.ntmps117
 go_wp2_with fail
 with_reducible refine HH.out.mono ?_
 rintro e w1 ⟨rfl,hb⟩
 have HB:=za hb
 clear hb HH
 go_wp2_with fail
 with_reducible refine (HU.out _ _).mono ?_
 rintro e w2 ⟨rfl,rfl⟩
 go_wp2
 go_ret
 exact ⟨rfl,HB.out⟩
set_option maxRecDepth 100000 in
theorem Zj (n:ByteArray) (h:zl w0 w D P M G A L S) (hn:n.size≤9223372036854775807):Calls Tryz.prog 122 #[.pointer (some ⟨D,0,none⟩),.string n] w (zP (ze (!uP A n.data.toList) 12) w):=by
 have HU:Hid (∀ b W,Calls Tryz.prog 129 #[.bool b,.int .i64 12] W fun e w'=>e=.returned (.int .i64 (ze b 12))∧w'=W):=fun b W=>xt b 12 W
 have c0:=h.c0
 have hl:=h.look1 n hn
 unfold av11 at hl
 have hfl:=fieldA11
 clear h
 generalize zY (Zm A n.data.toList)=s at *
 generalize uP A n.data.toList=b at *
 go_enter Tryz.func122,Tryz.ntmps122
 go_wp2_with fail
 with_reducible refine (HU.out _ _).mono ?_
 rintro e w2 ⟨rfl,rfl⟩
 go_wp2
 go_ret
 exact ⟨rfl,Below.refl _ _⟩
set_option maxRecDepth 100000 in
theorem XC (h:zl w0 w D P M G A L S):Calls Tryz.prog 118 #[.pointer (some ⟨D,0,none⟩)] w fun e w'=>e=.returned (.int .i64 A.length)∧w'=w:=by
 have c0:=h.c0
 have hl:=h.lenA
 generalize A.length=n at *
 clear h
 go_enter Tryz.func118,Tryz.ntmps118
 go_wp2
 go_ret
 exact ⟨rfl,rfl⟩
variable {k:Nat}
set_option maxRecDepth 100000 in
theorem fE (h:zl w0 w D P M G A L S) (hk:zH S k):Calls Tryz.prog 47 #[.pointer (some ⟨D,0,none⟩)] w (zR (zb S) w):=by
 have c2:=h.c2
 have HF:=za (h.gall hk)
 clear h hk
 generalize zb S=s at *
 go_enter Tryz.func47,Tryz.ntmps47
 go_wp2_with fail
 with_reducible refine HF.out.mono ?_
 rintro e w1 ⟨v,rfl,hr⟩
 have HR:=za hr
 clear hr HF c2
 go_wp2
 go_ret
 exact ⟨v,rfl,HR.out⟩
end
end Go.Proofs.YthmomkjingcbiaaGreatDoor
namespace Go.Proofs.YthmomkjingcbiaaGreatDoor
open Go.RowKit Go.Maps
set_option linter.unusedSectionVars false

def X8 (W:World) (b:Nat) (s:ByteArray) (d:Bool):Prop:=W.heap[b]? = some (.cells #[.string s,.bool d] 147 (0,0))
section
variable {W W':World} {b:Nat} {s:ByteArray} {d:Bool}
theorem X8.c0 (h:X8 W b s d):W.cell? ⟨b,0,none⟩=some (.string s):=by simp [World.cell?,show W.heap[b]? = _ from h]
theorem X8.c1 (h:X8 W b s d):W.cell? ⟨b,1,none⟩=some (.bool d):=by simp [World.cell?,show W.heap[b]? = _ from h]
theorem X8.f0 (h:X8 W b s d):W.frozen? ⟨b,0,none⟩=false:=by simp [World.frozen?,show W.heap[b]? = _ from h]
theorem X8.lt (h:X8 W b s d):b<W.heap.size:=(Array.getElem?_eq_some_iff.1 h).1
theorem X8.later (h:X8 W b s d) (hb:Below W.heap.size W W'):X8 W' b s d:=(hb.block b h.lt).trans h
theorem Q2 (W:World) (s:ByteArray) (d:Bool):X8 (W.alloc (.cells #[.string s,.bool d] 147)) W.heap.size s d:=(MapKept.heap_alloc W _).1
theorem X8.set0 (h:X8 W b s d) (x:ByteArray):X8 (W.setCell ⟨b,0,none⟩ (.string x)) b x d:=by
 have h':W.heap[b]? = some (.cells #[.string s,.bool d] 147 (0,0)):=h
 have hl:=h.lt
 have:=h'
 rw [Array.getElem?_eq_getElem hl] at this
 injection this with this
 show (W.setCell ⟨b,0,none⟩ (.string x)).heap[b]? = _
 simp [World.setCell,hl,Array.getElem_modify,this]
theorem X8.set1 (h:X8 W b s d) (x:Bool):X8 (W.setCell ⟨b,1,none⟩ (.bool x)) b s x:=by
 have h':W.heap[b]? = some (.cells #[.string s,.bool d] 147 (0,0)):=h
 have hl:=h.lt
 have:=h'
 rw [Array.getElem?_eq_getElem hl] at this
 injection this with this
 show (W.setCell ⟨b,1,none⟩ (.bool x)).heap[b]? = _
 simp [World.setCell,hl,Array.getElem_modify,this]
end

def YPt11 (D P:Nat) (n h:ByteArray) (d:Bool):Nat→Value→Prop
 | 3,v=>v=.map (some P)
 | 4,v=>v=.string n
 | 5,v=>v=.string n
 | 6,v=>v=.agg #[.string h,.bool d]
 | _,v=>v=.pointer (some ⟨D,0,none⟩)
def YPtW11 (D P:Nat) (n h:ByteArray) (d:Bool) (j:Nat) (v:Value) (_:World):Prop:=YPt11 D P n h d j v
section
variable [Fr11] {w0 w:World} {D P M G:Nat} {A:zt} {L:zg} {S:zj}
set_option maxRecDepth 100000 in
theorem qe (n h:ByteArray) (d:Bool) (ho:zl w0 w D P M G A L S) (hf:A.length≤1000) (hn:n.size≤1000) (hh:h.size≤1000) :
  Calls Tryz.prog 119 #[.pointer (some ⟨D,0,none⟩),.string n,.agg #[.string h,.bool d]] w fun e w'=>e=.returned (.tuple #[])∧zK w0 w D P M G (yB A n.data.toList (h.data.toList,d)) L S w':=by
 have HC:Hid (∀ W,Calls Tryz.prog 153 #[.string n] W fun e w'=>e=.returned (.string n)∧Below W.heap.size W w'):=fun W=>yD n W hn
 have HC1:Hid (∀ W,Calls Tryz.prog 153 #[.string h] W fun e w'=>e=.returned (.string h)∧Below W.heap.size W w'):=fun W=>yD h W hh
 have HO:=za ho
 have HST:Hid (∀ W,Below w.heap.size w W→∃ w',(Instr.mapUpdate 102 (.map (some P)) (.string n) (.agg #[.string h,.bool d])).run Tryz.prog W=.ok () w'∧zK w0 w D P M G (yB A n.data.toList (h.data.toList,d)) L S w'):=fun W hb=>by
  obtain ⟨w',h1,h2⟩:=(ho.later hb).store hf n h d (Nat.le_trans hn (by decide))
  exact ⟨w',h1,h2.ahead hb⟩
 have HA:=za (Q2 w h d)
 have HB0:Hid (Below w.heap.size w (w.alloc (.cells #[.string h,.bool d] 147))):=z8 (Below.refl _ _) _
 clear ho hf hn hh
 go_enter Tryz.func119,Tryz.ntmps119
 go_wp2_with fail
 with_reducible refine (HC1.out _).mono ?_
 rintro e w1 ⟨rfl,hb⟩
 have ha:=HA.out.later hb
 have f0:=ha.f0
 have c0:=ha.c0
 have HA1:=za (ha.set0 h)
 have HB1:Hid (Below w.heap.size w (w1.setCell ⟨w.heap.size,0,none⟩ (.string h))):=(z7 HB0.out hb).setCell (p:=⟨w.heap.size,0,none⟩) (Nat.le_refl _) _
 clear hb HA HB0 HC1 ha
 go_wp2_with fail
 generalize w1.setCell ⟨w.heap.size,0,none⟩ (.string h)=w2 at *
 generalize w.heap.size=B5 at HA1
 clear f0 c0
 refine zI (by kernel_rfl) 7 (fun W=>Below w2.heap.size w2 W) (fun W=>zK w0 w D P M G (yB A n.data.toList (h.data.toList,d)) L S W) (YPtW11 D P n h d) (fun _=>True) ?F ?hF (by kernel_rfl) (by kernel_rfl) (by kernel_rfl) (by kernel_rfl) (by decide) (zz (Below.refl _ _)) ?step ?fin
 case hF =>
  intro x
  simp only [List.map_cons,List.map_nil,xw,Act.put,List.setIfInBounds_toArray,List.set_cons_zero,List.set_cons_succ,Nat.zero_add,Nat.reduceAdd]
  exact rfl
 case step =>
  refine ⟨?_,?_,?_,?_,?_,?_,?_,?_,trivial⟩
  ·
   intro x W
   refine ⟨fun _ hW hdep K hK=>?_,(fun h=>absurd h (by decide)),(fun h=>absurd h (by decide))⟩
   clear hdep
   go_simp
   exact hK _ _ rfl hW (fun _ _ h=>h)
  ·
   intro x W
   refine ⟨fun _ hW hdep K hK=>?_,(fun h=>absurd h (by decide)),(fun h=>absurd h (by decide))⟩
   have h0:x 0=_:=hdep 0 rfl
   clear hdep
   simp only [h0] at hK
   go_simp
   exact hK _ _ rfl hW (fun _ _ h=>h)
  ·
   intro x W
   refine ⟨fun _ hW hdep K hK=>?_,(fun h=>absurd h (by decide)),(fun h=>absurd h (by decide))⟩
   have h1:x 1=_:=hdep 1 rfl
   clear hdep
   simp only [h1] at hK
   go_simp
   exact hK _ _ rfl hW (fun _ _ h=>h)
  ·
   intro x W
   refine ⟨fun _ hW hdep K hK=>?_,(fun h=>absurd h (by decide)),(fun h=>absurd h (by decide))⟩
   have h2:x 2=_:=hdep 2 rfl
   have c:=(HO.out.later (z7 HB1.out hW)).c0
   clear hdep
   simp only [h2] at hK
   go_simp
   exact hK _ _ rfl hW (fun _ _ h=>h)
  ·
   intro x W
   refine ⟨fun _ hW hdep K hK=>?_,(fun h=>absurd h (by decide)),(fun h=>absurd h (by decide))⟩
   clear hdep
   go_simp
   exact hK _ _ rfl hW (fun _ _ h=>h)
  ·
   intro x W
   refine ⟨fun _ hW hdep K hK=>?_,(fun h=>absurd h (by decide)),(fun h=>absurd h (by decide))⟩
   have h4:x 4=_:=hdep 4 rfl
   have hc:=HC.out W
   clear hdep
   simp only [h4] at hK
   go_simp
   refine hc.mono ?_
   rintro e W' ⟨rfl,hb⟩
   exact hK _ _ rfl (z7 hW hb) (fun _ _ h=>h)
  ·
   intro x W
   refine ⟨fun _ hW hdep K hK=>?_,(fun h=>absurd h (by decide)),(fun h=>absurd h (by decide))⟩
   have hx:=HA1.out.later hW
   have c0:=hx.c0
   have c1:=hx.c1
   clear hdep
   go_simp
   exact hK _ _ rfl hW (fun _ _ h=>h)
  ·
   intro x W
   refine ⟨(fun h=>absurd h (by decide)),fun _ hW hdep K hK=>?_,(fun h=>absurd h (by decide))⟩
   have h3:x 3=_:=hdep 3 rfl
   have h5:x 5=_:=hdep 5 rfl
   have h6:x 6=_:=hdep 6 rfl
   obtain ⟨w',hrun,hg⟩:=HST.out W (z7 HB1.out hW)
   clear hdep
   simp only [h3,h5,h6] at hK
   go_simp
   exact hK undef _ trivial hg
 case fin =>
  intro x W hW _
  have HF:=za hW
  clear hW HST HC HA1 HB1 HO
  go_end0
  exact ⟨rfl,HF.out⟩

def YPm11 (D M:Nat) (n m:ByteArray):Nat→Value→Prop
 | 2,v=>v=.pointer (some ⟨D,1,none⟩)
 | 3,v=>v=.pointer (some ⟨M,0,none⟩)
 | 4,v=>v=.string n
 | 5,v=>v=.string n
 | 6,v=>v=.string m
 | _,v=>v=.pointer (some ⟨D,0,none⟩)
def YPmW11 (D M:Nat) (n m:ByteArray) (j:Nat) (v:Value) (_:World):Prop:=YPm11 D M n m j v
set_option maxRecDepth 100000 in
theorem fz (n m:ByteArray) (ho:zl w0 w D P M G A L S) (hl:L.length<100) (h5:vQ w) (hn:n.size≤1000) (hm:m.size≤9223372036854775807) :
  Calls Tryz.prog 148 #[.pointer (some ⟨D,0,none⟩),.string n,.string m] w fun e w'=>e=.returned (.int .i64 (uW L n.data.toList m.data.toList))∧zK w0 w D P M G A (Xl L n.data.toList m.data.toList) S w':=by
 have HC:Hid (∀ W,Calls Tryz.prog 153 #[.string n] W fun e w'=>e=.returned (.string n)∧Below W.heap.size W w'):=fun W=>yD n W hn
 have HO:=za ho
 have HST:Hid (∀ W,Below w.heap.size w W→Calls Tryz.prog 221 #[.pointer (some ⟨M,0,none⟩),.string n,.string m] W fun e w'=>e=.returned (.int .i64 (uW L n.data.toList m.data.toList))∧zK w0 w D P M G A (Xl L n.data.toList m.data.toList) S w'):=fun W hb =>
  ((ho.later hb).mset n m (Nat.le_trans hn (by decide)) hm hl (h5.later hb)).mono fun e w' ⟨he,hg⟩=>⟨he,hg.ahead hb⟩
 clear ho hl hn hm h5
 generalize uW L n.data.toList m.data.toList=r at *
 generalize Xl L n.data.toList m.data.toList=L' at *
 go_enter Tryz.func148,Tryz.ntmps148
 go_wp2_with fail
 refine zI (by kernel_rfl) 7 (fun W=>Below w.heap.size w W) (fun W=>zK w0 w D P M G A L' S W) (YPmW11 D M n m) (fun v=>v=.int .i64 r) ?F ?hF (by kernel_rfl) (by kernel_rfl) (by kernel_rfl) (by kernel_rfl) (by decide) (zz (Below.refl _ _)) ?step ?fin
 case hF =>
  intro x
  simp only [List.map_cons,List.map_nil,xw,Act.put,List.setIfInBounds_toArray,List.set_cons_zero,List.set_cons_succ,Nat.zero_add,Nat.reduceAdd]
  exact rfl
 case step =>
  refine ⟨?_,?_,?_,?_,?_,?_,?_,?_,?_,trivial⟩
  ·
   intro x W
   refine ⟨fun _ hW hdep K hK=>?_,(fun h=>absurd h (by decide)),(fun h=>absurd h (by decide))⟩
   clear hdep
   go_simp
   exact hK _ _ rfl hW (fun _ _ h=>h)
  ·
   intro x W
   refine ⟨fun _ hW hdep K hK=>?_,(fun h=>absurd h (by decide)),(fun h=>absurd h (by decide))⟩
   have h0:x 0=_:=hdep 0 rfl
   clear hdep
   simp only [h0] at hK
   go_simp
   exact hK _ _ rfl hW (fun _ _ h=>h)
  ·
   intro x W
   refine ⟨fun _ hW hdep K hK=>?_,(fun h=>absurd h (by decide)),(fun h=>absurd h (by decide))⟩
   have h1:x 1=_:=hdep 1 rfl
   clear hdep
   simp only [h1] at hK
   go_simp
   exact hK _ _ rfl hW (fun _ _ h=>h)
  ·
   intro x W
   refine ⟨fun _ hW hdep K hK=>?_,(fun h=>absurd h (by decide)),(fun h=>absurd h (by decide))⟩
   have h2:x 2=_:=hdep 2 rfl
   have c:=(HO.out.later hW).c1
   clear hdep
   simp only [h2] at hK
   go_simp
   exact hK _ _ rfl hW (fun _ _ h=>h)
  ·
   intro x W
   refine ⟨fun _ hW hdep K hK=>?_,(fun h=>absurd h (by decide)),(fun h=>absurd h (by decide))⟩
   clear hdep
   go_simp
   exact hK _ _ rfl hW (fun _ _ h=>h)
  ·
   intro x W
   refine ⟨fun _ hW hdep K hK=>?_,(fun h=>absurd h (by decide)),(fun h=>absurd h (by decide))⟩
   have h4:x 4=_:=hdep 4 rfl
   have hc:=HC.out W
   clear hdep
   simp only [h4] at hK
   go_simp
   refine hc.mono ?_
   rintro e W' ⟨rfl,hb⟩
   exact hK _ _ rfl (z7 hW hb) (fun _ _ h=>h)
  ·
   intro x W
   refine ⟨fun _ hW hdep K hK=>?_,(fun h=>absurd h (by decide)),(fun h=>absurd h (by decide))⟩
   clear hdep
   go_simp
   exact hK _ _ rfl hW (fun _ _ h=>h)
  ·
   intro x W
   refine ⟨(fun h=>absurd h (by decide)),fun _ hW hdep K hK=>?_,(fun h=>absurd h (by decide))⟩
   have h3:x 3=_:=hdep 3 rfl
   have h5:x 5=_:=hdep 5 rfl
   have h6:x 6=_:=hdep 6 rfl
   have hc:=HST.out W hW
   clear hdep
   simp only [h3,h5,h6] at hK
   go_simp
   refine hc.mono ?_
   rintro e W' ⟨rfl,hg⟩
   exact hK _ _ rfl hg
  ·
   intro x W
   refine ⟨(fun h=>absurd h (by decide)),(fun h=>absurd h (by decide)),fun _ hW hdep K hK=>?_⟩
   have h7:x 7=_:=hdep 7 rfl (by decide)
   clear hdep
   simp only [h7] at hK
   go_simp
   exact hK _ rfl
 case fin =>
  intro x W hW hZ
  have h8:x 8=.int .i64 r:=hZ 8 (by decide) (by decide)
  have HF:=za hW
  clear hW hZ HST HC HO
  rw [h8]
  go_wp2
  go_ret
  exact ⟨rfl,HF.out⟩
end
end Go.Proofs.YthmomkjingcbiaaGreatDoor
namespace Go.Proofs.YthmomkjingcbiaaGreatDoor
open Go.RowKit Go.Maps
set_option linter.unusedSectionVars false

theorem QS (a b c d:Bool):zu [ze a 10,ze b 4,ze (!c) 9,ze (!d) 7]=Fh a b c d:=by cases a <;> cases b <;> cases c <;> cases d <;> rfl
theorem Y6 (a c:Bool):zu [ze a 10,ze c 8]=deF11 a c:=by cases a <;> cases c <;> rfl
theorem QR (a b c d:Bool):zu [ze a 10,ze b 4,ze c 8,ze (!d) 12]=Jq a b c d:=by cases a <;> cases b <;> cases c <;> cases d <;> rfl
theorem qh {n:ByteArray} (h:zf n.data.toList=true):n.size≤1000:=qi h
theorem Y0 {l:List UInt8} (h:zL l=true):l.length≤1000:=by
 unfold zL at h
 simp only [Bool.and_eq_true,decide_eq_true_eq] at h
 have:=h.1.2
 omega
theorem qn {n:ByteArray} (h:zL n.data.toList=true):n.size≤1000:=by
 have:=Y0 h
 rwa [zi] at this
section
variable [Fr11] {w0 w:World} {D P M G:Nat} {A:zt} {L:zg} {S:zj} {k:Nat}
theorem fit11_eq (n:Nat):ze (decide ((n:Int)+1≤12)) 7=ze (!decide (12≤n)) 7:=by
 by_cases h:12≤n
 ·
  rw [decide_eq_true h,decide_eq_false (by omega)]; rfl
 ·
  rw [decide_eq_false h,decide_eq_true (by omega)]; rfl
set_option maxRecDepth 100000 in
theorem Zs (n h:ByteArray) (ho:zl w0 w D P M G A L S) (hg:zs A L S k) (hn:n.size≤9223372036854775807) (hh:h.size≤9223372036854775807) :
  Calls Tryz.prog 42 #[.pointer (some ⟨D,0,none⟩),.string n,.string h] w fun e w'=>e=.returned (.int .i64 (Vd A n.data.toList h.data.toList))∧zK w0 w D P M G (crA11 A n.data.toList h.data.toList) L S w':=by
 have HN:Hid (∀ W,Below w.heap.size w W→Calls Tryz.prog 52 #[.string n] W fun e w'=>e=.returned (.int .i64 (ze (zf n.data.toList) 10))∧Below W.heap.size W w'):=fun W hb=>yE n W hn
 have HH:Hid (∀ W,Below w.heap.size w W→Calls Tryz.prog 116 #[.string h] W fun e w'=>e=.returned (.int .i64 (ze (zL h.data.toList) 4))∧Below W.heap.size W w'):=fun W hb=>uI h W hh
 have HI:Hid (∀ W,Below w.heap.size w W→Calls Tryz.prog 117 #[.pointer (some ⟨D,0,none⟩),.string n] W fun e w'=>e=.returned (.int .i64 (ze (!zE A n.data.toList) 9))∧Below W.heap.size W w'):=fun W hb=>Zl n (ho.later hb) hn
 have HL:Hid (∀ W,Below w.heap.size w W→Calls Tryz.prog 118 #[.pointer (some ⟨D,0,none⟩)] W fun e w'=>e=.returned (.int .i64 ((A.length:Int)))∧Below W.heap.size W w'):=fun W hb=>(XC (ho.later hb)).mono fun e w' ⟨he,hw⟩=>⟨he,by rw [hw]; exact Below.refl _ _⟩
 have HT:Hid (∀ W,Below w.heap.size w W→Calls Tryz.prog 112 #[.int .i64 ((A.length:Int)+1),.int .i64 12] W fun e w'=>e=.returned (.int .i64 (ze (!decide (12≤A.length)) 7))∧Below W.heap.size W w'):=fun W hb=>(qp _ _ W).mono fun e w' ⟨he,hw⟩=>⟨by rw [he,fit11_eq],by rw [hw]; exact Below.refl _ _⟩
 have HFS:Hid (∀ W:World,Calls Tryz.prog 51 #[.slice (some ⟨W.heap.size,0,none⟩) 4 4] (W.alloc (.cells #[.int .i64 (ze (zf n.data.toList) 10),.int .i64 (ze (zL h.data.toList) 4),.int .i64 (ze (!zE A n.data.toList) 9),.int .i64 (ze (!decide (12≤A.length)) 7)] 24)) fun e w'=>e=.returned (.int .i64 (Vd A n.data.toList h.data.toList))∧w'=W.alloc (.cells #[.int .i64 (ze (zf n.data.toList) 10),.int .i64 (ze (zL h.data.toList) 4),.int .i64 (ze (!zE A n.data.toList) 9),.int .i64 (ze (!decide (12≤A.length)) 7)] 24)):=fun W=>by
  have:=uF W [ze (zf n.data.toList) 10,ze (zL h.data.toList) 4,ze (!zE A n.data.toList) 9,ze (!decide (12≤A.length)) 7] 24 (by simp)
  rw [QS] at this
  exact this
 have HO:=za ho
 have HP:Hid (Vd A n.data.toList h.data.toList=0→∀ W,Below w.heap.size w W→Calls Tryz.prog 119 #[.pointer (some ⟨D,0,none⟩),.string n,.agg #[.string h,.bool false]] W fun e w'=>e=.returned (.tuple #[])∧zK w0 w D P M G (yB A n.data.toList (h.data.toList,false)) L S w'):=fun e W hb=>by
  obtain ⟨h1,h2,h3,h4⟩:=UX e
  exact (qe n h false (ho.later hb) (by have:=hg.few; omega) (qh h1) (qn h2)).mono fun e w' ⟨he,hgo⟩=>⟨he,hgo.ahead hb⟩
 have hm12:(A.length:Int)≤12:=by have:=hg.few; omega
 have hm0:(0:Int)≤(A.length:Int):=by omega
 clear ho hg hn hh
 unfold crA11
 generalize yB A n.data.toList (h.data.toList,false)=A' at *
 generalize Vd A n.data.toList h.data.toList=r at *
 generalize ze (zf n.data.toList) 10=e0 at *
 generalize ze (zL h.data.toList) 4=e1 at *
 generalize ze (!zE A n.data.toList) 9=e2 at *
 generalize ze (!decide (12≤A.length)) 7=e3 at *
 generalize (A.length:Int)=m at *
 by_cases h0:r=0
 ·
  subst h0
  rw [if_pos rfl]
  have HP2:=za (HP.out rfl)
  clear HP
  go_enter Tryz.func42,Tryz.ntmps42
  have HB0:Hid (Below w.heap.size w w):=Below.refl _ _
  go_wp2_with fail
  with_reducible refine (HN.out w HB0.out).mono ?_
  rintro e u1 ⟨rfl,hb⟩
  have HB1:=za (z7 HB0.out hb)
  clear hb
  go_wp2_with fail
  with_reducible refine (HH.out u1 HB1.out).mono ?_
  rintro e u2 ⟨rfl,hb⟩
  have HB2:=za (z7 HB1.out hb)
  clear hb
  go_wp2_with fail
  with_reducible refine (HI.out u2 HB2.out).mono ?_
  rintro e u3 ⟨rfl,hb⟩
  have HB3:=za (z7 HB2.out hb)
  clear hb
  go_wp2_with fail
  with_reducible refine (HL.out u3 HB3.out).mono ?_
  rintro e u4 ⟨rfl,hb⟩
  have HB4:=za (z7 HB3.out hb)
  clear hb
  go_wp2_with fail
  with_reducible refine (HT.out u4 HB4.out).mono ?_
  rintro e u5 ⟨rfl,hb⟩
  have HB5:=za (z7 HB4.out hb)
  clear hb
  go_wp2_with fail
  with_reducible refine (HFS.out _).mono ?_
  rintro e ub ⟨rfl,hub⟩
  have HB:Hid (Below w.heap.size w ub):=by
   show Below _ _ _
   rw [hub]; exact z8 HB5.out _
  clear hub HFS HB0 HB1 HB2 HB3 HB4 HB5 HN HH HI HL HT
  go_wp2_with fail
  with_reducible refine (HP2.out _ HB.out).mono ?_
  rintro e w5 ⟨rfl,hg⟩
  have HF:=za hg
  clear hg HP2 HB
  go_wp2
  go_ret
  exact ⟨rfl,HF.out⟩
 ·
  rw [if_neg h0]
  clear HP
  have q1:(r == 0)=false:=by simpa using h0
  have q2:¬ r=0:=h0
  go_enter Tryz.func42,Tryz.ntmps42
  have HB0:Hid (Below w.heap.size w w):=Below.refl _ _
  go_wp2_with fail
  with_reducible refine (HN.out w HB0.out).mono ?_
  rintro e u1 ⟨rfl,hb⟩
  have HB1:=za (z7 HB0.out hb)
  clear hb
  go_wp2_with fail
  with_reducible refine (HH.out u1 HB1.out).mono ?_
  rintro e u2 ⟨rfl,hb⟩
  have HB2:=za (z7 HB1.out hb)
  clear hb
  go_wp2_with fail
  with_reducible refine (HI.out u2 HB2.out).mono ?_
  rintro e u3 ⟨rfl,hb⟩
  have HB3:=za (z7 HB2.out hb)
  clear hb
  go_wp2_with fail
  with_reducible refine (HL.out u3 HB3.out).mono ?_
  rintro e u4 ⟨rfl,hb⟩
  have HB4:=za (z7 HB3.out hb)
  clear hb
  go_wp2_with fail
  with_reducible refine (HT.out u4 HB4.out).mono ?_
  rintro e u5 ⟨rfl,hb⟩
  have HB5:=za (z7 HB4.out hb)
  clear hb
  go_wp2_with fail
  with_reducible refine (HFS.out _).mono ?_
  rintro e ub ⟨rfl,hub⟩
  have HB:Hid (Below w.heap.size w ub):=by
   show Below _ _ _
   rw [hub]; exact z8 HB5.out _
  clear hub HFS HB0 HB1 HB2 HB3 HB4 HB5 HN HH HI HL HT
  go_wp2
  go_ret
  exact ⟨rfl,HO.out.still HB.out⟩
set_option maxRecDepth 100000 in
theorem fs (n h:ByteArray) (ho:zl w0 w D P M G A L S) (hg:zs A L S k) (hn:n.size≤9223372036854775807) (hh:h.size≤9223372036854775807) :
  Calls Tryz.prog 44 #[.pointer (some ⟨D,0,none⟩),.string n,.string h] w fun e w'=>e=.returned (.int .i64 (Xk A n.data.toList h.data.toList))∧zK w0 w D P M G (FO A n.data.toList h.data.toList) L S w':=by
 have HN:Hid (∀ W,Below w.heap.size w W→Calls Tryz.prog 52 #[.string n] W fun e w'=>e=.returned (.int .i64 (ze (zf n.data.toList) 10))∧Below W.heap.size W w'):=fun W hb=>yE n W hn
 have HH:Hid (∀ W,Below w.heap.size w W→Calls Tryz.prog 116 #[.string h] W fun e w'=>e=.returned (.int .i64 (ze (zL h.data.toList) 4))∧Below W.heap.size W w'):=fun W hb=>uI h W hh
 have HI:Hid (∀ W,Below w.heap.size w W→Calls Tryz.prog 53 #[.pointer (some ⟨D,0,none⟩),.string n] W fun e w'=>e=.returned (.int .i64 (ze (zE A n.data.toList) 8))∧Below W.heap.size W w'):=fun W hb=>vi n (ho.later hb) hn
 have HL:Hid (∀ W,Below w.heap.size w W→Calls Tryz.prog 122 #[.pointer (some ⟨D,0,none⟩),.string n] W fun e w'=>e=.returned (.int .i64 (ze (!uP A n.data.toList) 12))∧Below W.heap.size W w'):=fun W hb=>Zj n (ho.later hb) hn
 have HFS:Hid (∀ W:World,Calls Tryz.prog 51 #[.slice (some ⟨W.heap.size,0,none⟩) 4 4] (W.alloc (.cells #[.int .i64 (ze (zf n.data.toList) 10),.int .i64 (ze (zL h.data.toList) 4),.int .i64 (ze (zE A n.data.toList) 8),.int .i64 (ze (!uP A n.data.toList) 12)] 24)) fun e w'=>e=.returned (.int .i64 (Xk A n.data.toList h.data.toList))∧w'=W.alloc (.cells #[.int .i64 (ze (zf n.data.toList) 10),.int .i64 (ze (zL h.data.toList) 4),.int .i64 (ze (zE A n.data.toList) 8),.int .i64 (ze (!uP A n.data.toList) 12)] 24)):=fun W=>by
  have:=uF W [ze (zf n.data.toList) 10,ze (zL h.data.toList) 4,ze (zE A n.data.toList) 8,ze (!uP A n.data.toList) 12] 24 (by simp)
  rw [QR] at this
  exact this
 have HO:=za ho
 have HP:Hid (Xk A n.data.toList h.data.toList=0→∀ W,Below w.heap.size w W→Calls Tryz.prog 119 #[.pointer (some ⟨D,0,none⟩),.string n,.agg #[.string h,.bool (uP A n.data.toList)]] W fun e w'=>e=.returned (.tuple #[])∧zK w0 w D P M G (yB A n.data.toList (h.data.toList,uP A n.data.toList)) L S w'):=fun e W hb=>by
  obtain ⟨h1,h2,h3,h4⟩:=Uv e
  exact (qe n h _ (ho.later hb) (by have:=hg.few; omega) (qh h1) (qn h2)).mono fun e w' ⟨he,hgo⟩=>⟨he,hgo.ahead hb⟩
 have HK:Hid (∀ W,Below w.heap.size w W→(Instr.lookup 102 (.map (some P)) (.string n) false).run Tryz.prog W=.ok (.agg #[.string (zY (Zm A n.data.toList)),.bool (uP A n.data.toList)]) W):=fun W hb=>(ho.later hb).look1 n hn
 have hz:=fh
 clear ho hg hn hh
 unfold FO
 generalize yB A n.data.toList (h.data.toList,uP A n.data.toList)=A' at *
 generalize Xk A n.data.toList h.data.toList=r at *
 generalize ze (zf n.data.toList) 10=e0 at *
 generalize ze (zL h.data.toList) 4=e1 at *
 generalize ze (zE A n.data.toList) 8=e2 at *
 generalize ze (!uP A n.data.toList) 12=e3 at *
 generalize uP A n.data.toList=dd at *
 generalize zY (Zm A n.data.toList)=ss at *
 by_cases h0:r=0
 ·
  subst h0
  rw [if_pos rfl]
  have HP2:=za (HP.out rfl)
  clear HP
  go_enter Tryz.func44,Tryz.ntmps44
  have HB0:Hid (Below w.heap.size w w):=Below.refl _ _
  go_wp2_with fail
  with_reducible refine (HN.out w HB0.out).mono ?_
  rintro e u1 ⟨rfl,hb⟩
  have HB1:=za (z7 HB0.out hb)
  clear hb
  go_wp2_with fail
  with_reducible refine (HH.out u1 HB1.out).mono ?_
  rintro e u2 ⟨rfl,hb⟩
  have HB2:=za (z7 HB1.out hb)
  clear hb
  go_wp2_with fail
  with_reducible refine (HI.out u2 HB2.out).mono ?_
  rintro e u3 ⟨rfl,hb⟩
  have HB3:=za (z7 HB2.out hb)
  clear hb
  go_wp2_with fail
  with_reducible refine (HL.out u3 HB3.out).mono ?_
  rintro e u4 ⟨rfl,hb⟩
  have HB4:=za (z7 HB3.out hb)
  clear hb
  go_wp2_with fail
  with_reducible refine (HFS.out _).mono ?_
  rintro e ub ⟨rfl,hub⟩
  have HB:Hid (Below w.heap.size w ub):=by
   show Below _ _ _
   rw [hub]; exact z8 HB4.out _
  clear hub HFS HB0 HB1 HB2 HB3 HB4 HN HH HI HL
  have c0:=(HO.out.later HB.out).c0
  have hk:=HK.out _ HB.out
  have HBA:Hid (Below w.heap.size w (ub.alloc (.cells #[.string h,.bool dd] 147))):=z8 HB.out _
  clear HK
  go_wp2_with fail
  with_reducible refine (HP2.out _ HBA.out).mono ?_
  rintro e w5 ⟨rfl,hg⟩
  have HF:=za hg
  clear hg HP2 HB HBA c0 hk
  go_wp2
  go_ret
  exact ⟨rfl,HF.out⟩
 ·
  rw [if_neg h0]
  clear HP HK
  have q1:(r == 0)=false:=by simpa using h0
  have q2:¬ r=0:=h0
  go_enter Tryz.func44,Tryz.ntmps44
  have HB0:Hid (Below w.heap.size w w):=Below.refl _ _
  go_wp2_with fail
  with_reducible refine (HN.out w HB0.out).mono ?_
  rintro e u1 ⟨rfl,hb⟩
  have HB1:=za (z7 HB0.out hb)
  clear hb
  go_wp2_with fail
  with_reducible refine (HH.out u1 HB1.out).mono ?_
  rintro e u2 ⟨rfl,hb⟩
  have HB2:=za (z7 HB1.out hb)
  clear hb
  go_wp2_with fail
  with_reducible refine (HI.out u2 HB2.out).mono ?_
  rintro e u3 ⟨rfl,hb⟩
  have HB3:=za (z7 HB2.out hb)
  clear hb
  go_wp2_with fail
  with_reducible refine (HL.out u3 HB3.out).mono ?_
  rintro e u4 ⟨rfl,hb⟩
  have HB4:=za (z7 HB3.out hb)
  clear hb
  go_wp2_with fail
  with_reducible refine (HFS.out _).mono ?_
  rintro e ub ⟨rfl,hub⟩
  have HB:Hid (Below w.heap.size w ub):=by
   show Below _ _ _
   rw [hub]; exact z8 HB4.out _
  clear hub HFS HB0 HB1 HB2 HB3 HB4 HN HH HI HL
  go_wp2
  go_ret
  exact ⟨rfl,HO.out.still HB.out⟩
def F8 (A:zt) (n:List UInt8):zt:=if uQ A n=0 then vR A n else A
def F7 (A:zt) (L:zg) (n:List UInt8):zg:=if uQ A n=0 then xH L n else L
def F6 (A:zt) (S:zj) (n:List UInt8):zj:=if uQ A n=0 then uK S n else S
set_option maxRecDepth 100000 in
theorem Zq (n:ByteArray) (ho:zl w0 w D P M G A L S) (hg:zs A L S k) (hn:n.size≤9223372036854775807) :
  Calls Tryz.prog 43 #[.pointer (some ⟨D,0,none⟩),.string n] w fun e w'=>e=.returned (.int .i64 (uQ A n.data.toList))∧zK w0 w D P M G (F8 A n.data.toList) (F7 A L n.data.toList) (F6 A S n.data.toList) w':=by
 have HN:Hid (∀ W,Below w.heap.size w W→Calls Tryz.prog 52 #[.string n] W fun e w'=>e=.returned (.int .i64 (ze (zf n.data.toList) 10))∧Below W.heap.size W w'):=fun W hb=>yE n W hn
 have HI:Hid (∀ W,Below w.heap.size w W→Calls Tryz.prog 53 #[.pointer (some ⟨D,0,none⟩),.string n] W fun e w'=>e=.returned (.int .i64 (ze (zE A n.data.toList) 8))∧Below W.heap.size W w'):=fun W hb=>vi n (ho.later hb) hn
 have HFS:Hid (∀ W:World,Calls Tryz.prog 51 #[.slice (some ⟨W.heap.size,0,none⟩) 2 2] (W.alloc (.cells #[.int .i64 (ze (zf n.data.toList) 10),.int .i64 (ze (zE A n.data.toList) 8)] 24)) fun e w'=>e=.returned (.int .i64 (uQ A n.data.toList))∧w'=W.alloc (.cells #[.int .i64 (ze (zf n.data.toList) 10),.int .i64 (ze (zE A n.data.toList) 8)] 24)):=fun W=>by
  have:=uF W [ze (zf n.data.toList) 10,ze (zE A n.data.toList) 8] 24 (by simp)
  rw [Y6] at this
  exact this
 have HO:=za ho
 have HDR:Hid (∀ W ty,Below w.heap.size w W→∃ w',(Builtin.delete_ #[102,9] ty #[.map (some P),.string n]).run Tryz.prog W=.ok (.tuple #[]) w'∧zK w0 w D P M G (vR A n.data.toList) L S w'):=fun W ty hb=>by
  obtain ⟨w',h1,h2⟩:=(ho.later hb).drop n hn ty
  exact ⟨w',h1,h2.ahead hb⟩
 have HMD:Hid (∀ W A1 L1 S1,zl w0 W D P M G A1 L1 S1→Calls Tryz.prog 120 #[.pointer (some ⟨M,0,none⟩),.string n] W fun e w'=>e=.returned (.bool (yb L1 n.data.toList))∧zK w0 W D P M G A1 (xH L1 n.data.toList) S1 w'):=fun W A1 L1 S1 h=>h.mdrop n hn
 have HGR:Hid (∀ W A1 L1,zl w0 W D P M G A1 L1 S→Calls Tryz.prog 121 #[.pointer (some ⟨G,0,none⟩),.string n] W fun e w'=>e=.returned (.int .i64 ((yX S n.data.toList).length:Nat))∧zK w0 W D P M G A1 L1 (uK S n.data.toList) w'):=fun W A1 L1 h=>h.gremove hg.grp n hn
 clear ho hg hn
 unfold F8 F7 F6
 generalize uQ A n.data.toList=r at *
 generalize ze (zf n.data.toList) 10=e0 at *
 generalize ze (zE A n.data.toList) 8=e2 at *
 by_cases h0:r=0
 ·
  subst h0
  rw [if_pos rfl,if_pos rfl,if_pos rfl]
  generalize (yX S n.data.toList).length=cnt at *
  generalize uK S n.data.toList=S' at *
  generalize vR A n.data.toList=A' at *
  go_enter Tryz.func43,Tryz.ntmps43
  have HB0:Hid (Below w.heap.size w w):=Below.refl _ _
  go_wp2_with fail
  with_reducible refine (HN.out w HB0.out).mono ?_
  rintro e u1 ⟨rfl,hb⟩
  have HB1:=za (z7 HB0.out hb)
  clear hb
  go_wp2_with fail
  with_reducible refine (HI.out u1 HB1.out).mono ?_
  rintro e u2 ⟨rfl,hb⟩
  have HB2:=za (z7 HB1.out hb)
  clear hb
  go_wp2_with fail
  with_reducible refine (HFS.out _).mono ?_
  rintro e ub ⟨rfl,hub⟩
  have HB:Hid (Below w.heap.size w ub):=by
   show Below _ _ _
   rw [hub]; exact z8 HB2.out _
  clear hub HFS HB0 HB1 HB2 HN HI
  have c0:=(HO.out.later HB.out).c0
  have hdr:=fun ty=>HDR.out ub ty HB.out
  obtain ⟨w1,hrun,hgo⟩:=hdr 0
  have HG1:=za hgo
  have c1:=hgo.1.c1
  have HMD1:=za (HMD.out w1 _ _ _ hgo.1)
  clear hdr hgo HDR HMD
  go_wp2_with fail
  with_reducible refine HMD1.out.mono ?_
  rintro e w2 ⟨rfl,hgo⟩
  have HG2:=za (HG1.out.next hgo)
  have c2:=hgo.1.c2
  have HGR1:=za (HGR.out w2 _ _ hgo.1)
  clear hgo HGR HMD1 HG1 c1 c0 hrun
  go_wp2_with fail
  with_reducible refine HGR1.out.mono ?_
  rintro e w3 ⟨rfl,hgo⟩
  have HF:=za (HG2.out.next hgo)
  clear hgo HGR1 HG2 c2
  go_wp2
  go_ret
  exact ⟨rfl,HF.out⟩
 ·
  rw [if_neg h0,if_neg h0,if_neg h0]
  clear HDR HMD HGR
  have q1:(r == 0)=false:=by simpa using h0
  have q2:¬ r=0:=h0
  go_enter Tryz.func43,Tryz.ntmps43
  have HB0:Hid (Below w.heap.size w w):=Below.refl _ _
  go_wp2_with fail
  with_reducible refine (HN.out w HB0.out).mono ?_
  rintro e u1 ⟨rfl,hb⟩
  have HB1:=za (z7 HB0.out hb)
  clear hb
  go_wp2_with fail
  with_reducible refine (HI.out u1 HB1.out).mono ?_
  rintro e u2 ⟨rfl,hb⟩
  have HB2:=za (z7 HB1.out hb)
  clear hb
  go_wp2_with fail
  with_reducible refine (HFS.out _).mono ?_
  rintro e ub ⟨rfl,hub⟩
  have HB:Hid (Below w.heap.size w ub):=by
   show Below _ _ _
   rw [hub]; exact z8 HB2.out _
  clear hub HFS HB0 HB1 HB2 HN HI
  go_wp2
  go_ret
  exact ⟨rfl,HO.out.still HB.out⟩
theorem sm11_eq (n m:List UInt8):(zf n=true∧uN m=true∧zE A n=true→jN A L n m=uW L n m∧Qe A L n m=Xl L n m)∧(¬ (zf n=true∧uN m=true∧zE A n=true)→jN A L n m=(if zf n then (if uN m then (if zE A n then 0 else 8) else 11) else 10)∧Qe A L n m=L):=by
 constructor
 ·
  rintro ⟨h1,h2,h3⟩
  have h4:uW L n m=0∨uW L n m=9:=by
   unfold uW
   rw [if_pos h1]
   by_cases hm:m=[]
   ·
    rw [if_pos hm]; exact .inl rfl
   ·
    have h5:yS m=true:=by unfold uN at h2; rw [decide_eq_false hm,Bool.false_or] at h2; exact h2
    rw [if_neg hm,if_pos h5]
    cases X7 L n (zD m)
    ·
     exact .inl rfl
    ·
     exact .inr rfl
  have e1:jN A L n m=uW L n m:=by
   unfold jN Jo
   rw [h1,h2,h3]
   rcases h4 with h | h <;> rw [h] <;> rfl
  refine ⟨e1,?_⟩
  unfold Qe
  rw [e1]
  by_cases h:uW L n m=0
  ·
   rw [if_pos h]
  ·
   rw [if_neg h]; unfold Xl; rw [if_neg h]
 ·
  intro hq
  have e1:jN A L n m=(if zf n then (if uN m then (if zE A n then 0 else 8) else 11) else 10):=by
   unfold jN Jo
   revert hq
   cases zf n <;> cases uN m <;> cases zE A n <;> simp
  refine ⟨e1,?_⟩
  unfold Qe
  rw [e1,if_neg]
  revert hq
  cases zf n <;> cases uN m <;> cases zE A n <;> simp
end
end Go.Proofs.YthmomkjingcbiaaGreatDoor
namespace Go.Proofs.YthmomkjingcbiaaGreatDoor
open Go.RowKit Go.Maps Go.Sort Go.Shelf
set_option linter.unusedSectionVars false

theorem U9 {V:Type} (e:V→DataW Unit) (L:zX V):strKeys (vp e L)=zb L:=by
 simp only [vp,strKeys,List.map_map]; rfl
section
variable [Fr11] {w0 w:World} {D P M G:Nat} {A:zt} {L:zg} {S:zj} {k:Nat}
set_option maxRecDepth 100000 in
theorem uZ (ho:zl w0 w D P M G A L S) (hr:zB A) (hf:A.length≤12):Calls Tryz.prog 62 #[.pointer (some ⟨D,0,none⟩)] w (zR (zb A) w):=by
 have eg:∀ args w,(callFunc 215 args).run Tryz.prog w=.ok (.enter 215 args) w:=enters_of Tryz.func215 (by kernel_rfl) rfl
 have bl:Below w.heap.size w (w.alloc (.cells #[.map (some P)] 102)):=z8 (Below.refl _ _) _
 have cS:∃ S:List (List UInt8)→Prop,(∀ ss,S ss→ss.Perm (zb A))∧SeqGives Fence.wide 2 Tryz.prog 215 #[.pointer (some ⟨w.heap.size,0,none⟩)] encStr S A.length (w.alloc (.cells #[.map (some P)] 102)):=by
  have ho':=ho
  obtain ⟨p,q,LM,pg,T,hd,_⟩:=ho'
  have hown:=World.ownsMap.alloc hd.acc (.cells #[.map (some P)] 102)
  have h:=AnyZ.keys_gives (ρ:=Tryz.keys11_ren) { Tryz.keys11 with } Fence.wide 2 trivial rfl (by omega) w.heap.size P _ (vp JZ A) _ (by simp) (by simp) hown
  rw [vk] at h
  exact ⟨_,fun ss h=>by rw [U9] at h; exact h,h⟩
 obtain ⟨Ss,hS,hseq⟩:=cS
 have HK:Hid (Calls Tryz.prog 140 #[.map (some P)] w fun e w'=>e=.returned (.func (.func 215) #[] #[.pointer (some ⟨w.heap.size,0,none⟩)])∧w'=w.alloc (.cells #[.map (some P)] 102)) :=
  (callsIn_wide (n:=4)).1 (AnyZ.keys_in Tryz.keys11 Fence.wide 4 trivial rfl (some P) w)
 have HSF:=za (uU _ _ Ss A.length _ eg (by omega) (fun ss h=>by rw [(hS ss h).length_eq,ym]; omega) hseq)
 have HSS:Hid (∀ ss,Ss ss→ss.length=A.length∧ss.mergeSort (fun x y=>!(ltOf Lib.compareBytes) y x)=zb A):=fun ss h=>by
  have hp:=hS ss h
  exact ⟨by rw [hp.length_eq,ym],Xg hr.names hp _ (fun x y=>by rw [lt7])⟩
 have hc:=ho.c0
 have BL:=za bl
 clear hseq hS ho bl
 go_enter Tryz.func62,Tryz.ntmps62
 go_wp2_with fail
 with_reducible refine HK.out.mono ?_
 rintro e w1 ⟨rfl,rfl⟩
 go_wp2_with fail
 with_reducible refine HSF.out.mono ?_
 rintro e w2 ⟨v,ss,rfl,hss,hrow,hnil,hb⟩
 obtain ⟨hl,hm⟩:=HSS.out ss hss
 have HF:Hid (zR (zb A) w (.returned v) w2):=by
  rw [hl,hm] at hrow
  refine ⟨v,rfl,?_,z7 BL.out hb⟩
  rw [ym]
  exact zv hrow (by simp)
 clear hss hrow hnil hb hl hm HSS HSF HK hc BL
 go_wp2
 go_ret
 exact HF.out

theorem Jd (w:World):(zeroValue 47).run Tryz.prog w=.ok (.agg #[.string ⟨#[]⟩,.string ⟨#[]⟩,.string ⟨#[]⟩,.bool false,.slice none 0 0]) w:=by kernel_rfl
def qV (A:zt) (L:zg) (S:zj) (n:ByteArray) (w W:World) (v:Value):Prop :=
 ∃ ga gc,v=.agg #[.string n,.string (zY (Zm A n.data.toList)),.string (zY (yF L n.data.toList)),.bool (uP A n.data.toList),.slice ga (yX S n.data.toList).length gc]∧W.ownsRow w.heap.size 9 1 (.slice ga (yX S n.data.toList).length gc) (yX S n.data.toList).length ((yX S n.data.toList).map encStr)
def Tld11 (b:Nat) (n s m:ByteArray) (d:Bool) (gs:List (List UInt8)) (w W:World):Prop :=
 ∃ ga gc,yU W b (.string n) (.string s) (.string m) (.bool d) (.slice ga gs.length gc)∧W.ownsRow w.heap.size 9 1 (.slice ga gs.length gc) gs.length (gs.map encStr)∧Below w.heap.size w W
def YTl11 (D G b5:Nat) (n s m:ByteArray) (d:Bool) (gs:List (List UInt8)) (w:World):Nat→Value→World→Prop
 | 0,v,_=>v=.string n
 | 1,v,_=>v=.pointer (some ⟨b5,0,none⟩)
 | 2,v,_=>v=.string s
 | 3,v,_=>v=.string m
 | 4,v,_=>v=.pointer (some ⟨b5,1,none⟩)
 | 5,v,_=>v=.bool d
 | 8,v,_=>v=.pointer (some ⟨D,2,none⟩)
 | 9,v,_=>v=.pointer (some ⟨G,0,none⟩)
 | 10,v,_=>v=.string n
 | 11,v,W=>∃ ga gc,v=.slice ga gs.length gc∧W.ownsRow w.heap.size 9 1 (.slice ga gs.length gc) gs.length (gs.map encStr)
 | 12,v,W=>∃ ga gc,v=.agg #[.string n,.string s,.string m,.bool d,.slice ga gs.length gc]∧W.ownsRow w.heap.size 9 1 (.slice ga gs.length gc) gs.length (gs.map encStr)
 | _,v,_=>v=.pointer (some ⟨D,0,none⟩)
theorem zw {w w':World} {b:Nat} {e size n:Nat} {v:Value} {xs:List Value} (h:w.ownsRow b e size v n xs) (hb:Below w.heap.size w w'):w'.ownsRow b e size v n xs:=by
 refine ⟨h.1,?_⟩
 rcases h.2 with hn | ⟨g,cap,cur,e1,h0,hg,hr⟩
 ·
  exact .inl hn
 ·
  exact .inr ⟨g,cap,cur,e1,h0,(hb.block g (Array.getElem?_eq_some_iff.1 hg).1).trans hg,hr⟩
theorem J6 {D G b5:Nat} {n s m:ByteArray} {d:Bool} {gs:List (List UInt8)} {w W W':World} (hb:Below W.heap.size W W') (j:Nat) (u:Value) (h:YTl11 D G b5 n s m d gs w j u W):YTl11 D G b5 n s m d gs w j u W':=by
 match j,h with
 | 0,h=>exact h
 | 1,h=>exact h
 | 2,h=>exact h
 | 3,h=>exact h
 | 4,h=>exact h
 | 5,h=>exact h
 | 6,h=>exact h
 | 7,h=>exact h
 | 8,h=>exact h
 | 9,h=>exact h
 | 10,h=>exact h
 | 11,h =>
  obtain ⟨ga,gc,e,hr⟩:=h
  exact ⟨ga,gc,e,zw hr hb⟩
 | 12,h =>
  obtain ⟨ga,gc,e,hr⟩:=h
  exact ⟨ga,gc,e,zw hr hb⟩
 | _+13,h=>exact h
set_option maxRecDepth 100000 in
theorem jv (n:ByteArray) (ho:zl w0 w D P M G A L S) (hk:zH S k) (hn:n.size≤9223372036854775807) :
  Calls Tryz.prog 54 #[.pointer (some ⟨D,0,none⟩),.string n] w fun e w'=>∃ v,e=.returned v∧qV A L S n w w' v∧Below w.heap.size w w':=by
 have HO:=za ho
 have hz:=fh
 have hzu:=Jd
 have HLK:Hid (∀ W,Below w.heap.size w W→(Instr.lookup 102 (.map (some P)) (.string n) false).run Tryz.prog W=.ok (.agg #[.string (zY (Zm A n.data.toList)),.bool (uP A n.data.toList)]) W):=fun W hb=>(ho.later hb).look1 n hn
 have HOF:Hid (∀ W,Below w.heap.size w W→Calls Tryz.prog 131 #[.pointer (some ⟨M,0,none⟩),.string n] W fun e w'=>e=.returned (.tuple #[.string (zY (yF L n.data.toList)),.bool (yb L n.data.toList)])∧w'=W):=fun W hb=>(ho.later hb).mof n hn
 have HGO:Hid (∀ W,Below w.heap.size w W→Calls Tryz.prog 132 #[.pointer (some ⟨G,0,none⟩),.string n] W (zR (yX S n.data.toList) W)):=fun W hb=>(ho.later hb).gof hk n hn
 unfold qV
 clear ho hk hn
 generalize zY (Zm A n.data.toList)=ss at *
 generalize uP A n.data.toList=dd at *
 generalize zY (yF L n.data.toList)=mm at *
 generalize yb L n.data.toList=hm at *
 generalize yX S n.data.toList=gs at *
 have hb1:Below w.heap.size w (w.alloc (.cells #[.string ⟨#[]⟩,.string ⟨#[]⟩,.string ⟨#[]⟩,.bool false,.slice none 0 0] 47)):=z8 (Below.refl _ _) _
 have hb2:Below w.heap.size w ((w.alloc (.cells #[.string ⟨#[]⟩,.string ⟨#[]⟩,.string ⟨#[]⟩,.bool false,.slice none 0 0] 47)).alloc (.cells #[.string ss,.bool dd] 147)):=z8 hb1 _
 have hz1:yU (w.alloc (.cells #[.string ⟨#[]⟩,.string ⟨#[]⟩,.string ⟨#[]⟩,.bool false,.slice none 0 0] 47)) w.heap.size (.string ⟨#[]⟩) (.string ⟨#[]⟩) (.string ⟨#[]⟩) (.bool false) (.slice none 0 0):=heap_alloc_new w _
 have HZ:Hid (yU ((w.alloc (.cells #[.string ⟨#[]⟩,.string ⟨#[]⟩,.string ⟨#[]⟩,.bool false,.slice none 0 0] 47)).alloc (.cells #[.string ss,.bool dd] 147)) w.heap.size (.string ⟨#[]⟩) (.string ⟨#[]⟩) (.string ⟨#[]⟩) (.bool false) (.slice none 0 0)):=(Below.heap_alloc _ _ _ (by simp)).trans hz1
 have HA:=za (Q2 (w.alloc (.cells #[.string ⟨#[]⟩,.string ⟨#[]⟩,.string ⟨#[]⟩,.bool false,.slice none 0 0] 47)) ss dd)
 have c0:=(HO.out.later hb1).c0
 have c1:=(HO.out.later hb2).c1
 have hl:=HLK.out _ hb1
 have HOF1:=za (HOF.out _ hb2)
 have HB2:=za hb2
 clear hb1 hb2 hz1 HOF
 go_enter Tryz.func54,Tryz.ntmps54
 go_wp2_with fail
 with_reducible refine HOF1.out.mono ?_
 rintro e w2 ⟨rfl,hw2⟩
 rw [← hw2] at HZ HA HB2
 have hsz:(w.alloc (.cells #[.string ⟨#[]⟩,.string ⟨#[]⟩,.string ⟨#[]⟩,.bool false,.slice none 0 0] 47)).heap.size=w.heap.size+1:=by simp
 rw [hsz] at HA
 have HLT:=za (HA.out.lt)
 clear hw2 hl HOF1 c0 c1 HLK hsz
 go_wp2_with fail
 have HLT2:Hid (w.heap.size<w2.heap.size):=by have:=HLT.out; show _<_; omega
 have HSO:Hid (∀ W,Below w2.heap.size w2 W→∀ ga gc,W.ownsRow w.heap.size 9 1 (.slice ga gs.length gc) gs.length (gs.map encStr)→Tld11 w.heap.size n ss mm dd gs w (set5 W w.heap.size (.string n) (.string ss) (.string mm) (.bool dd) (.slice ga gs.length gc))):=fun W hb ga gc ho=>by
  have hz:yU W w.heap.size (.string ⟨#[]⟩) (.string ⟨#[]⟩) (.string ⟨#[]⟩) (.bool false) (.slice none 0 0):=(hb.block _ HLT2.out).trans HZ.out
  have ht:zc (fun i=>i=w.heap.size) W (set5 W w.heap.size (.string n) (.string ss) (.string mm) (.bool dd) (.slice ga gs.length gc)):=ja (zc.refl (fun i=>i=w.heap.size) W) w.heap.size (fun _=>rfl) _ _ _ _ _
  have hbw:=z7 HB2.out hb
  refine ⟨ga,gc,hz.set5 _ _ _ _ _,?_,hbw.trans (ht.below_at hbw.size (fun i e=>by omega))⟩
  refine ⟨ho.1,?_⟩
  rcases ho.2 with hn | ⟨g,cap,cur,e1,h0,hg,hr⟩
  ·
   exact .inl hn
  ·
   have hne:g≠w.heap.size:=fun e=>by
    subst e
    rw [show W.heap[w.heap.size]? = _ from hz] at hg
    injection hg with hg
    injection hg with _ h
    exact absurd h (by decide)
   exact .inr ⟨g,cap,cur,e1,h0,(ht.block g (Array.getElem?_eq_some_iff.1 hg).1 hne).trans hg,hr⟩
 refine zI (by kernel_rfl) 13 (fun W=>Below w2.heap.size w2 W) (fun W=>Tld11 w.heap.size n ss mm dd gs w W) (YTl11 D G (w.heap.size+1) n ss mm dd gs w) (fun _=>True) ?F ?hF (by kernel_rfl) (by kernel_rfl) (by kernel_rfl) (by kernel_rfl) (by decide) (zz (Below.refl _ _)) ?step ?fin
 case hF =>
  intro x
  simp only [List.map_cons,List.map_nil,xw,Act.put,List.setIfInBounds_toArray,List.set_cons_zero,List.set_cons_succ,Nat.zero_add,Nat.reduceAdd]
  exact rfl
 case step =>
  refine ⟨?_,?_,?_,?_,?_,?_,?_,?_,?_,?_,?_,?_,?_,?_,trivial⟩
  ·
   intro x W
   refine ⟨fun _ hW hdep K hK=>?_,(fun h=>absurd h (by decide)),(fun h=>absurd h (by decide))⟩
   clear hdep
   go_simp
   exact hK _ _ rfl hW (fun _ _ h=>h)
  ·
   intro x W
   refine ⟨fun _ hW hdep K hK=>?_,(fun h=>absurd h (by decide)),(fun h=>absurd h (by decide))⟩
   clear hdep
   go_simp
   exact hK _ _ rfl hW (fun _ _ h=>h)
  ·
   intro x W
   refine ⟨fun _ hW hdep K hK=>?_,(fun h=>absurd h (by decide)),(fun h=>absurd h (by decide))⟩
   have h1:x 1=_:=hdep 1 rfl
   have hx:=HA.out.later hW
   have c0:=hx.c0
   clear hdep
   simp only [h1] at hK
   go_simp
   exact hK _ _ rfl hW (fun _ _ h=>h)
  ·
   intro x W
   refine ⟨fun _ hW hdep K hK=>?_,(fun h=>absurd h (by decide)),(fun h=>absurd h (by decide))⟩
   clear hdep
   go_simp
   exact hK _ _ rfl hW (fun _ _ h=>h)
  ·
   intro x W
   refine ⟨fun _ hW hdep K hK=>?_,(fun h=>absurd h (by decide)),(fun h=>absurd h (by decide))⟩
   clear hdep
   go_simp
   exact hK _ _ rfl hW (fun _ _ h=>h)
  ·
   intro x W
   refine ⟨fun _ hW hdep K hK=>?_,(fun h=>absurd h (by decide)),(fun h=>absurd h (by decide))⟩
   have h4:x 4=_:=hdep 4 rfl
   have hx:=HA.out.later hW
   have c1:=hx.c1
   clear hdep
   simp only [h4] at hK
   go_simp
   exact hK _ _ rfl hW (fun _ _ h=>h)
  ·
   intro x W
   refine ⟨fun _ hW hdep K hK=>?_,(fun h=>absurd h (by decide)),(fun h=>absurd h (by decide))⟩
   clear hdep
   go_simp
   exact hK _ _ rfl hW (fun _ _ h=>h)
  ·
   intro x W
   refine ⟨fun _ hW hdep K hK=>?_,(fun h=>absurd h (by decide)),(fun h=>absurd h (by decide))⟩
   have h6:x 6=_:=hdep 6 rfl
   clear hdep
   simp only [h6] at hK
   go_simp
   exact hK _ _ rfl hW (fun _ _ h=>h)
  ·
   intro x W
   refine ⟨fun _ hW hdep K hK=>?_,(fun h=>absurd h (by decide)),(fun h=>absurd h (by decide))⟩
   have h7:x 7=_:=hdep 7 rfl
   clear hdep
   simp only [h7] at hK
   go_simp
   exact hK _ _ rfl hW (fun _ _ h=>h)
  ·
   intro x W
   refine ⟨fun _ hW hdep K hK=>?_,(fun h=>absurd h (by decide)),(fun h=>absurd h (by decide))⟩
   have h8:x 8=_:=hdep 8 rfl
   have c:=(HO.out.later (z7 HB2.out hW)).c2
   clear hdep
   simp only [h8] at hK
   go_simp
   exact hK _ _ rfl hW (fun _ _ h=>h)
  ·
   intro x W
   refine ⟨fun _ hW hdep K hK=>?_,(fun h=>absurd h (by decide)),(fun h=>absurd h (by decide))⟩
   clear hdep
   go_simp
   exact hK _ _ rfl hW (fun _ _ h=>h)
  ·
   intro x W
   refine ⟨fun _ hW hdep K hK=>?_,(fun h=>absurd h (by decide)),(fun h=>absurd h (by decide))⟩
   have h9:x 9=_:=hdep 9 rfl
   have h10:x 10=_:=hdep 10 rfl
   have hc:=HGO.out W (z7 HB2.out hW)
   clear hdep
   simp only [h9,h10] at hK
   go_simp
   refine hc.mono ?_
   rintro e W' ⟨v,rfl,hr,hb⟩
   obtain ⟨ga,gc,rfl⟩:=ve hr
   exact hK _ _ ⟨ga,gc,rfl,zv hr (z7 HB2.out hW).size⟩ (z7 hW hb) (fun j u h=>J6 hb j u h)
  ·
   intro x W
   refine ⟨fun _ hW hdep K hK=>?_,(fun h=>absurd h (by decide)),(fun h=>absurd h (by decide))⟩
   have h0:x 0=_:=hdep 0 rfl
   have h2:x 2=_:=hdep 2 rfl
   have h3:x 3=_:=hdep 3 rfl
   have h5:x 5=_:=hdep 5 rfl
   have hA:∃ ga gc,x 11=.slice ga gs.length gc∧W.ownsRow w.heap.size 9 1 (.slice ga gs.length gc) gs.length (gs.map encStr):=hdep 11 rfl
   obtain ⟨ga,gc,h11,hr⟩:=hA
   simp only [h11] at hK
   clear hdep
   simp only [h0,h2,h3,h5] at hK
   go_simp
   exact hK _ _ ⟨ga,gc,rfl,hr⟩ hW (fun _ _ h=>h)
  ·
   intro x W
   refine ⟨(fun h=>absurd h (by decide)),fun _ hW hdep K hK=>?_,(fun h=>absurd h (by decide))⟩
   have hA:∃ ga gc,x 12=.agg #[.string n,.string ss,.string mm,.bool dd,.slice ga gs.length gc]∧W.ownsRow w.heap.size 9 1 (.slice ga gs.length gc) gs.length (gs.map encStr):=hdep 12 rfl
   obtain ⟨ga,gc,h12,hr⟩:=hA
   simp only [h12] at hK
   have hz:yU W w.heap.size (.string ⟨#[]⟩) (.string ⟨#[]⟩) (.string ⟨#[]⟩) (.bool false) (.slice none 0 0):=(hW.block _ HLT2.out).trans HZ.out
   have f1:=hz.free
   have q0:=HSO.out W hW ga gc hr
   have r0:_=some (.string ⟨#[]⟩:Value):=hz.at_ 0
   have r1:_=some (.string ⟨#[]⟩:Value):=hz.at_ 1
   have r2:_=some (.string ⟨#[]⟩:Value):=hz.at_ 2
   have r3:_=some (.bool false:Value):=hz.at_ 3
   have r4:_=some (.slice none 0 0:Value):=hz.at_ 4
   clear hz
   clear hdep
   go_simp
   exact hK undef _ trivial q0
 case fin =>
  intro x W hW _
  obtain ⟨ga,gc,hz,hr,hb⟩:=hW
  have HR:=za hr
  have HBB:=za hb
  have q0:_=some (.string n:Value):=hz.at_ 0
  have q1:_=some (.string ss:Value):=hz.at_ 1
  have q2:_=some (.string mm:Value):=hz.at_ 2
  have q3:_=some (.bool dd:Value):=hz.at_ 3
  have q4:_=some (.slice ga gs.length gc:Value):=hz.at_ 4
  clear hr hb hz HSO HZ HA HB2 HGO HO HLT HLT2
  go_wp2_with fail
  refine bodyPost_ret (v:=.agg #[.string n,.string ss,.string mm,.bool dd,.slice ga gs.length gc]) ?_ rfl ⟨_,rfl,⟨ga,gc,rfl,HR.out⟩,HBB.out⟩
  simp [results,Tryz.results54,go_sem,q0,q1,q2,q3,q4]
end

set_option maxRecDepth 100000 in
theorem XB (w:World):Calls Tryz.prog 23 #[] w fun e w'=>∃ D P M G,e=.returned (.pointer (some ⟨D,0,none⟩))∧zl w w' D P M G [] [] []:=by
 have HM:Hid (∀ W,Calls Tryz.prog 63 #[] W fun e w'=>e=.returned (.pointer (some ⟨W.heap.size,0,none⟩))∧w'=W.alloc (.cells #[.map none,.map none] 164)):=fun W=>Qz W
 have HG:Hid (∀ W,Calls Tryz.prog 64 #[] W fun e w'=>e=.returned (.pointer (some ⟨W.heap.size,0,none⟩))∧w'=W.alloc (.cells #[.map none] 167)):=fun W=>VR W
 have hmm:=@run_makeMap Tryz.prog
 have a1:=Uk w
 have hb1:=z8 (Below.refl w.heap.size w) (.map #[] 0)
 have s1:(w.alloc (.map #[] 0)).heap.size=w.heap.size+1:=by simp
 generalize hw1:w.alloc (.map #[] 0)=w1 at *
 have a2:=idx9_new w1
 have hb2:=z8 (Below.refl w1.heap.size w1) (.cells #[.map none,.map none] 164)
 have s2:(w1.alloc (.cells #[.map none,.map none] 164)).heap.size=w1.heap.size+1:=by simp
 generalize hw2:w1.alloc (.cells #[.map none,.map none] 164)=w2 at *
 have a3:=JQ w2
 have hb3:=z8 (Below.refl w2.heap.size w2) (.cells #[.map none] 167)
 have s3:(w2.alloc (.cells #[.map none] 167)).heap.size=w2.heap.size+1:=by simp
 generalize hw3:w2.alloc (.cells #[.map none] 167)=w3 at *
 have hb4:=z8 (Below.refl w3.heap.size w3) (.cells #[.map (some w.heap.size),.pointer (some ⟨w1.heap.size,0,none⟩),.pointer (some ⟨w2.heap.size,0,none⟩)] 108)
 have a4:=heap_alloc_new w3 (.cells #[.map (some w.heap.size),.pointer (some ⟨w1.heap.size,0,none⟩),.pointer (some ⟨w2.heap.size,0,none⟩)] 108)
 have HF:Hid (zl w (w3.alloc (.cells #[.map (some w.heap.size),.pointer (some ⟨w1.heap.size,0,none⟩),.pointer (some ⟨w2.heap.size,0,none⟩)] 108)) w3.heap.size w.heap.size w1.heap.size w2.heap.size [] [] []):=by
  have hb24:=z7 (z7 hb2 hb3) hb4
  have hb34:=z7 hb3 hb4
  refine ⟨none,none,[],none,[],⟨a4,a1.kept (hb24.block _ (by omega)),a2.later hb34,a3.later hb4,?_,?_,?_⟩,rfl,fun i hi=>⟨?_,id⟩,z7 (z7 (z7 hb1 hb2) hb3) hb4,Nat.zero_le _,fun _ h=>h.elim⟩
  ·
   rintro i (rfl | h | h)
   ·
    omega
   ·
    cases h
   ·
    cases h
  ·
   rintro i (rfl | h | ⟨x,h,_⟩)
   ·
    omega
   ·
    cases h
   ·
    cases h
  ·
   rintro i (rfl | h | h) (h' | h' | ⟨x,h',_⟩)
   ·
    omega
   all_goals first | cases h | cases h'
  ·
   revert hi
   rintro (rfl | rfl | h | h)
   ·
    omega
   ·
    omega
   ·
    rcases h with rfl | h | h
    ·
     omega
    ·
     cases h
    ·
     cases h
   ·
    rcases h with rfl | h | ⟨x,h,_⟩
    ·
     omega
    ·
     cases h
    ·
     cases h
 clear a1 a2 a3 a4 hb1 hb2 hb3 hb4 s1 s2 s3
 go_enter Tryz.func23,Tryz.ntmps23
 go_wp2_with fail
 with_reducible refine (HM.out _).mono ?_
 rintro e u2 ⟨rfl,hu2⟩
 go_wp2_with fail
 with_reducible refine (HG.out _).mono ?_
 rintro e u3 ⟨rfl,hu3⟩
 try rw [hw1] at hu2
 try rw [hw2] at hu2
 try subst hu2
 try rw [hw3] at hu3
 subst hu3
 clear HM HG hmm hw1 hw2 hw3
 go_wp2
 go_ret
 exact ⟨_,_,_,_,rfl,HF.out⟩
end Go.Proofs.YthmomkjingcbiaaGreatDoor
namespace Go.Proofs.YthmomkjingcbiaaGreatDoor
open Go.RowKit Go.Maps
set_option linter.unusedSectionVars false

section
variable [Fr11] {w0 w:World} {D P M G:Nat} {A:zt} {L:zg} {S:zj} {k:Nat}

def Fy (A:zt) (L:zg) (S:zj) (n:ByteArray) (w W:World) (v:Value):Prop :=
 (uQ A n.data.toList=0→qV A L S n w W v)∧(uQ A n.data.toList≠0→v=.agg #[.string ⟨#[]⟩,.string ⟨#[]⟩,.string ⟨#[]⟩,.bool false,.slice none 0 0])
theorem qV.low {w w1 W:World} {n:ByteArray} {v:Value} (h:qV A L S n w1 W v) (hb:Below w.heap.size w w1):qV A L S n w W v:=by
 obtain ⟨ga,gc,e,hr⟩:=h
 exact ⟨ga,gc,e,zv hr hb.size⟩
set_option maxRecDepth 100000 in
theorem Zi (n:ByteArray) (ho:zl w0 w D P M G A L S) (hk:zH S k) (hn:n.size≤9223372036854775807) :
  Calls Tryz.prog 18 #[.pointer (some ⟨D,0,none⟩),.string n] w fun e w'=>∃ v,e=.returned (.tuple #[v,.int .i64 (uQ A n.data.toList)])∧Fy A L S n w w' v∧Below w.heap.size w w':=by
 have hzu:=Jd
 have HN:Hid (∀ W,Below w.heap.size w W→Calls Tryz.prog 52 #[.string n] W fun e w'=>e=.returned (.int .i64 (ze (zf n.data.toList) 10))∧Below W.heap.size W w'):=fun W hb=>yE n W hn
 have HI:Hid (∀ W,Below w.heap.size w W→Calls Tryz.prog 53 #[.pointer (some ⟨D,0,none⟩),.string n] W fun e w'=>e=.returned (.int .i64 (ze (zE A n.data.toList) 8))∧Below W.heap.size W w'):=fun W hb=>vi n (ho.later hb) hn
 have HFS:Hid (∀ W:World,Calls Tryz.prog 51 #[.slice (some ⟨W.heap.size,0,none⟩) 2 2] (W.alloc (.cells #[.int .i64 (ze (zf n.data.toList) 10),.int .i64 (ze (zE A n.data.toList) 8)] 24)) fun e w'=>e=.returned (.int .i64 (uQ A n.data.toList))∧w'=W.alloc (.cells #[.int .i64 (ze (zf n.data.toList) 10),.int .i64 (ze (zE A n.data.toList) 8)] 24)):=fun W=>by
  have:=uF W [ze (zf n.data.toList) 10,ze (zE A n.data.toList) 8] 24 (by simp)
  rw [Y6] at this
  exact this
 have HT:Hid (∀ W,Below w.heap.size w W→Calls Tryz.prog 54 #[.pointer (some ⟨D,0,none⟩),.string n] W fun e w'=>∃ v,e=.returned v∧qV A L S n w w' v∧Below W.heap.size W w'):=fun W hb =>
  (jv n (ho.later hb) hk hn).mono fun e w' ⟨v,he,ht,hb'⟩=>⟨v,he,ht.low hb,hb'⟩
 clear ho hk hn
 obtain ⟨r,hr⟩:∃ r,r=uQ A n.data.toList:=⟨_,rfl⟩
 rw [← hr] at HFS ⊢
 have HRD:=za hr
 clear hr
 generalize ze (zf n.data.toList) 10=e0 at *
 generalize ze (zE A n.data.toList) 8=e1 at *
 have hz1:yU (w.alloc (.cells #[.string ⟨#[]⟩,.string ⟨#[]⟩,.string ⟨#[]⟩,.bool false,.slice none 0 0] 47)) w.heap.size (.string ⟨#[]⟩) (.string ⟨#[]⟩) (.string ⟨#[]⟩) (.bool false) (.slice none 0 0):=heap_alloc_new w _
 have HZ:=za hz1
 have HB0:Hid (Below w.heap.size w (w.alloc (.cells #[.string ⟨#[]⟩,.string ⟨#[]⟩,.string ⟨#[]⟩,.bool false,.slice none 0 0] 47))):=z8 (Below.refl _ _) _
 clear hz1
 go_enter Tryz.func18,Tryz.ntmps18
 go_wp2_with fail
 with_reducible refine (HN.out _ HB0.out).mono ?_
 rintro e u1 ⟨rfl,hb⟩
 have HZ1:=za (show yU u1 _ _ _ _ _ _ from (hb.block w.heap.size (by simp)).trans HZ.out)
 have HB1:=za (z7 HB0.out hb)
 have HL1:Hid (w.heap.size<u1.heap.size):=by have:=hb.size; show _<_; simp at this; omega
 clear hb HZ HB0 HN
 go_wp2_with fail
 with_reducible refine (HI.out _ HB1.out).mono ?_
 rintro e u2 ⟨rfl,hb⟩
 have HZ2:=za (show yU u2 _ _ _ _ _ _ from (hb.block w.heap.size HL1.out).trans HZ1.out)
 have HB2:=za (z7 HB1.out hb)
 have HL2:Hid (w.heap.size<u2.heap.size):=by have:=hb.size; have:=HL1.out; show _<_; omega
 clear hb HZ1 HB1 HI HL1
 go_wp2_with fail
 with_reducible refine (HFS.out _).mono ?_
 rintro e ub ⟨rfl,hub⟩
 have HB:Hid (Below w.heap.size w ub):=by
  show Below _ _ _
  rw [hub]; exact z8 HB2.out _
 have HZ3:Hid (yU ub w.heap.size (.string ⟨#[]⟩) (.string ⟨#[]⟩) (.string ⟨#[]⟩) (.bool false) (.slice none 0 0)):=by
  show yU _ _ _ _ _ _ _
  rw [hub]; exact (Below.heap_alloc _ _ _ HL2.out).trans HZ2.out
 have HL3:Hid (w.heap.size<ub.heap.size):=by
  show _<_
  rw [hub]; have:=HL2.out; simp; omega
 clear hub HFS HB2 HZ2 HL2
 have SET:Hid (∀ W,Below w.heap.size w W→yU W w.heap.size (.string ⟨#[]⟩) (.string ⟨#[]⟩) (.string ⟨#[]⟩) (.bool false) (.slice none 0 0)→∀ a b c d e,yU (set5 W w.heap.size a b c d e) w.heap.size a b c d e∧Below w.heap.size w (set5 W w.heap.size a b c d e)∧∀ v xs m,W.ownsRow w.heap.size 9 1 v m xs→(set5 W w.heap.size a b c d e).ownsRow w.heap.size 9 1 v m xs):=fun W hbw hz a b c d e=>by
  have ht:zc (fun i=>i=w.heap.size) W (set5 W w.heap.size a b c d e):=ja (zc.refl (fun i=>i=w.heap.size) W) w.heap.size (fun _=>rfl) _ _ _ _ _
  refine ⟨hz.set5 _ _ _ _ _,hbw.trans (ht.below_at hbw.size (fun i e=>by omega)),fun v xs m ho=>⟨ho.1,?_⟩⟩
  rcases ho.2 with hn | ⟨g,cap,cur,e1,h0,hg,hr⟩
  ·
   exact .inl hn
  ·
   have hne:g≠w.heap.size:=fun e=>by
    subst e
    rw [show W.heap[w.heap.size]? = _ from hz] at hg
    injection hg with hg
    injection hg with _ h
    exact absurd h (by decide)
   exact .inr ⟨g,cap,cur,e1,h0,(ht.block g (Array.getElem?_eq_some_iff.1 hg).1 hne).trans hg,hr⟩
 by_cases h0:r=0
 ·
  subst h0
  go_wp2_with fail
  with_reducible refine (HT.out _ HB.out).mono ?_
  rintro e w4 ⟨v,rfl,ht,hb⟩
  obtain ⟨ga,gc,rfl,hr⟩:=ht
  have hz:yU w4 w.heap.size (.string ⟨#[]⟩) (.string ⟨#[]⟩) (.string ⟨#[]⟩) (.bool false) (.slice none 0 0):=(hb.block w.heap.size HL3.out).trans HZ3.out
  have hbw:=z7 HB.out hb
  obtain ⟨s1,s2,s3⟩:=SET.out w4 hbw hz (.string n) (.string (zY (Zm A n.data.toList))) (.string (zY (yF L n.data.toList))) (.bool (uP A n.data.toList)) (.slice ga (yX S n.data.toList).length gc)
  have HR:=za (s3 _ _ _ hr)
  have HBB:=za s2
  have HT2:Hid (qV A L S n w (set5 w4 w.heap.size (.string n) (.string (zY (Zm A n.data.toList))) (.string (zY (yF L n.data.toList))) (.bool (uP A n.data.toList)) (.slice ga (yX S n.data.toList).length gc)) (.agg #[.string n,.string (zY (Zm A n.data.toList)),.string (zY (yF L n.data.toList)),.bool (uP A n.data.toList),.slice ga (yX S n.data.toList).length gc])):=⟨ga,gc,rfl,HR.out⟩
  have HT3:=za (show Fy A L S n w _ _ from ⟨fun _=>HT2.out,fun h=>absurd HRD.out.symm h⟩)
  clear HT2 HR SET HT HZ3 HL3 hb hr hbw s2 s3
  generalize zY (Zm A n.data.toList)=ss at *
  generalize uP A n.data.toList=dd at *
  generalize zY (yF L n.data.toList)=mm at *
  generalize (yX S n.data.toList).length=gl at *
  have f1:=hz.free
  have q0:_=some (.string n:Value):=s1.at_ 0
  have q1:_=some (.string ss:Value):=s1.at_ 1
  have q2:_=some (.string mm:Value):=s1.at_ 2
  have q3:_=some (.bool dd:Value):=s1.at_ 3
  have q4:_=some (.slice ga gl gc:Value):=s1.at_ 4
  have r0:_=some (.string ⟨#[]⟩:Value):=hz.at_ 0
  have r1:_=some (.string ⟨#[]⟩:Value):=hz.at_ 1
  have r2:_=some (.string ⟨#[]⟩:Value):=hz.at_ 2
  have r3:_=some (.bool false:Value):=hz.at_ 3
  have r4:_=some (.slice none 0 0:Value):=hz.at_ 4
  clear hz s1
  unfold set5 at q0 q1 q2 q3 q4 HT3 HBB
  go_wp2
  refine bodyPost_ret (v:=.tuple #[.agg #[.string n,.string ss,.string mm,.bool dd,.slice ga gl gc],.int .i64 0]) ?_ rfl ⟨_,rfl,HT3.out,HBB.out⟩
  simp [results,Tryz.results18,go_sem,q0,q1,q2,q3,q4]
 ·
  have q1:(r == 0)=false:=by simpa using h0
  have q2:(r != 0)=true:=by simpa using h0
  obtain ⟨s1,s2,_⟩:=SET.out ub HB.out HZ3.out (.string ⟨#[]⟩) (.string ⟨#[]⟩) (.string ⟨#[]⟩) (.bool false) (.slice none 0 0)
  have HBB:=za s2
  have hz:=HZ3.out
  clear SET HT HZ3 HL3 s2 HB
  have f1:=hz.free
  have p0:_=some (.string ⟨#[]⟩:Value):=s1.at_ 0
  have p1:_=some (.string ⟨#[]⟩:Value):=s1.at_ 1
  have p2:_=some (.string ⟨#[]⟩:Value):=s1.at_ 2
  have p3:_=some (.bool false:Value):=s1.at_ 3
  have p4:_=some (.slice none 0 0:Value):=s1.at_ 4
  have r0:_=some (.string ⟨#[]⟩:Value):=hz.at_ 0
  have r1:_=some (.string ⟨#[]⟩:Value):=hz.at_ 1
  have r2:_=some (.string ⟨#[]⟩:Value):=hz.at_ 2
  have r3:_=some (.bool false:Value):=hz.at_ 3
  have r4:_=some (.slice none 0 0:Value):=hz.at_ 4
  clear hz s1
  unfold set5 at p0 p1 p2 p3 p4 HBB
  go_wp2
  refine bodyPost_ret (v:=.tuple #[.agg #[.string ⟨#[]⟩,.string ⟨#[]⟩,.string ⟨#[]⟩,.bool false,.slice none 0 0],.int .i64 r]) ?_ rfl ⟨_,rfl,⟨fun h=>absurd (HRD.out.trans h) h0,fun _=>rfl⟩,HBB.out⟩
  simp [results,Tryz.results18,go_sem,p0,p1,p2,p3,p4]
end
end Go.Proofs.YthmomkjingcbiaaGreatDoor
namespace Go.Proofs.YthmomkjingcbiaaGreatDoor
open Go.RowKit Go.Maps Go.Sort Go.Shelf

structure W11 where
 hs:ByteArray
 ml:ByteArray
 dis:Bool
 ga:Option Addr
 gs:List (List UInt8)
 gc:Nat
def W11.u (x:W11):U11:=⟨x.hs.data.toList,x.ml.data.toList,x.dis,x.gs⟩
def Vc (q:List UInt8×W11):List Value:=[.string (zY q.1),.string q.2.hs,.string q.2.ml,.bool q.2.dis,.slice q.2.ga q.2.gs.length q.2.gc]
theorem cu11_at (L:zX W11) (j i:Nat) (hj:j<L.length) (hi:i<5):(L.flatMap Vc)[j * 5+i]? = (Vc L[j])[i]? := by
 induction L generalizing j with
 | nil=>exact absurd hj (Nat.not_lt_zero _)
 | cons q L ih =>
  rw [List.flatMap_cons]
  cases j with
  | zero =>
   rw [List.getElem?_append_left (by simp [Vc]; omega)]
   simp
  | succ j =>
   rw [List.getElem?_append_right (by simp [Vc]; omega)]
   have:=ih j (by simpa using hj)
   rw [show (j+1) * 5+i - (Vc q).length=j * 5+i by simp [Vc]; omega,this]
   simp
theorem QI:(Tryz.prog.info? 47).map (fun i=>(i.zero,i.size,i.bytes))=some (some (.agg #[.string ⟨#[]⟩,.string ⟨#[]⟩,.string ⟨#[]⟩,.bool false,.slice none 0 0]),5,80):=by kernel_rfl

def jR (w:World) (v:Value) (L:zX W11):Prop:=∃ A c,v=.slice A L.length c∧∀ j (h:j<L.length),∃ g,A=some ⟨g,0,none⟩∧∀ i u,(Vc L[j])[i]? = some u→w.cell? ⟨g,j * 5+i,none⟩=some u
theorem jR.later {w w':World} {v:Value} {L:zX W11} (h:jR w v L) (hb:Below w.heap.size w w'):jR w' v L:=by
 obtain ⟨A,c,e,hc⟩:=h
 exact ⟨A,c,e,fun j hj=>by obtain ⟨g,e,h⟩:=hc j hj; exact ⟨g,e,fun i u hu=>(hb.cell (p:=⟨g,j * 5+i,none⟩) (World.block_lt_of_cell? w _ (h i u hu))).trans (h i u hu)⟩⟩
theorem jR.of_users {w:World} {base:Nat} {v:Value} {L:zX W11} (h:w.ownsRow base 47 5 v L.length (L.flatMap Vc)):jR w v L:=by
 have hs:∃ A c,v=.slice A L.length c:=by
  rcases h.2 with ⟨rfl,h0⟩ | ⟨g,cap,cur,rfl,_⟩
  ·
   exact ⟨none,0,by rw [h0]⟩
  ·
   exact ⟨_,_,rfl⟩
 obtain ⟨A,c,rfl⟩:=hs
 refine ⟨A,c,rfl,fun j hj=>?_⟩
 rcases h.2 with ⟨_,h0⟩ | ⟨g,cap,cur,e1,_⟩
 ·
  omega
 ·
  injection e1 with e1
  subst e1
  refine ⟨g,rfl,fun i u hu=>?_⟩
  have hi:i<5:=(List.getElem?_eq_some_iff.1 hu).1
  have:=World.ownsRow.cells h (g:=g) rfl (j * 5+i) u (by rw [cu11_at L j i hj hi]; exact hu)
  rw [Addr.add_lit,Nat.zero_add] at this
  exact this



def Q4 (L:zX W11) (w:World) (v:Value):Prop:=w.ownsRow 0 47 5 v L.length (L.flatMap Vc)
theorem Q4.us {L:zX W11} {w:World} {v:Value} (h:Q4 L w v):jR w v L:=jR.of_users (base:=0) h
theorem vg {w w':World} {b:Nat} {e size n:Nat} {v:Value} {xs:List Value} (h:w.ownsRow b e size v n xs) (hk:zN w w') (h1:e≠108) (h2:e≠164) (h3:e≠167):w'.ownsRow b e size v n xs:=by
 refine ⟨h.1,?_⟩
 rcases h.2 with hn | ⟨g,cap,cur,e1,h0,hg,hr⟩
 ·
  exact .inl hn
 ·
  exact .inr ⟨g,cap,cur,e1,h0,hk g _ _ _ hg h1 h2 h3,hr⟩
theorem Q4.keeps {L:zX W11} {w w':World} {v:Value} (h:Q4 L w v) (hk:zN w w'):Q4 L w' v:=vg h hk (by decide) (by decide) (by decide)
theorem Q4.later {L:zX W11} {w w':World} {v:Value} (h:Q4 L w v) (hb:Below w.heap.size w w'):Q4 L w' v:=h.keeps (zN.of_below hb)
theorem Q4.of_own {L:zX W11} {w:World} {b:Nat} {v:Value} (h:w.ownsRow b 47 5 v L.length (L.flatMap Vc)):Q4 L w v:=zv h (Nat.zero_le _)
theorem Q4.nil (w:World):Q4 [] w (.slice none 0 0):=World.ownsRow_nil _ _ _ _
theorem jR.at_ {w:World} {A:Option Addr} {c n:Nat} {L:zX W11} (h:jR w (.slice A n c) L) (k:Nat) (hk:k<L.length) :
  ∃ g,A=some ⟨g,0,none⟩∧w.cell? ⟨g,k * 5,none⟩=some (.string (zY L[k].1))∧w.cell? ⟨g,k * 5+1,none⟩=some (.string L[k].2.hs)∧w.cell? ⟨g,k * 5+2,none⟩=some (.string L[k].2.ml)∧w.cell? ⟨g,k * 5+3,none⟩=some (.bool L[k].2.dis)∧w.cell? ⟨g,k * 5+4,none⟩=some (.slice L[k].2.ga L[k].2.gs.length L[k].2.gc):=by
 obtain ⟨A',c',e,hc⟩:=h
 injection e with e1 e2 e3
 obtain ⟨g,eg,hcell⟩:=hc k hk
 exact ⟨g,by rw [e1,eg],hcell 0 _ rfl,hcell 1 _ rfl,hcell 2 _ rfl,hcell 3 _ rfl,hcell 4 _ rfl⟩
theorem jR.shape {w:World} {v:Value} {L:zX W11} (h:jR w v L):∃ A c,v=.slice A L.length c:=by
 obtain ⟨A,c,e,_⟩:=h
 exact ⟨A,c,e⟩




structure J7 (w:World) (B:Nat) (s:ByteArray) (x:W11) (n:Nat):Prop where
 lt:B<w.heap.size
 c0:w.cell? ⟨B,0,none⟩=some (.string s)
 c1:w.cell? ⟨B,1,none⟩=some (.string x.hs)
 c2:w.cell? ⟨B,2,none⟩=some (.string x.ml)
 c3:w.cell? ⟨B,3,none⟩=some (.bool x.dis)
 c4:w.cell? ⟨B,4,none⟩=some (.slice x.ga n x.gc)
theorem J7.of_heap {w W:World} {B n:Nat} {s:ByteArray} {x:W11} (hx:J7 w B s x n) (he:W.heap[B]? = w.heap[B]?):J7 W B s x n:=by
 have hB:=hx.lt
 have hc:∀ i,W.cell? ⟨B,i,none⟩=w.cell? ⟨B,i,none⟩:=fun i=>World.cell?_of_block he
 refine ⟨?_,(hc 0).trans hx.c0,(hc 1).trans hx.c1,(hc 2).trans hx.c2,(hc 3).trans hx.c3,(hc 4).trans hx.c4⟩
 rw [Array.getElem?_eq_getElem hB] at he
 exact (Array.getElem?_eq_some_iff.1 he).1
theorem J7.below_at {w W:World} {B m:Nat} {s:ByteArray} {x:W11} (hx:J7 w B s x m) {n:Nat} (hn:B<n) (hb:Below n w W):J7 W B s x m:=hx.of_heap (hb.block B hn)





end Go.Proofs.YthmomkjingcbiaaGreatDoor
namespace Go.Proofs.YthmomkjingcbiaaGreatDoor
open Go.RowKit Go.Maps
set_option linter.unusedSectionVars false

theorem ug {w:World} {b1 b2 s1 s2 n1 n2:Nat} {e1 e2:TypeId} {v1 v2:Value} {xs1 xs2:List Value} (h1:w.ownsRow b1 e1 s1 v1 n1 xs1) (h2:w.ownsRow b2 e2 s2 v2 n2 xs2) (he:e1≠e2):v1.ownBlock=none∨v1.ownBlock≠v2.ownBlock:=by
  rcases h1.2 with ⟨rfl,_⟩ | ⟨g,cap,cur,rfl,_,hg,_⟩
  · exact .inl rfl
  · rcases h2.2 with ⟨rfl,_⟩ | ⟨g2,cap2,cur2,rfl,_,hg2,_⟩
    · exact .inr (by simp [Value.ownBlock])
    · refine .inr fun e=>?_
      have:g=g2:=by simpa [Value.ownBlock] using e
      subst this
      rw [hg] at hg2
      injection hg2 with h
      injection h with _ h
      exact he h

def X5 (b:Nat) (w:World) (R:zX W11):Prop:=∀ p∈R,w.ownsRow b 9 1 (.slice p.2.ga p.2.gs.length p.2.gc) p.2.gs.length (p.2.gs.map encStr)
def ZM (R:zX W11):xI:=R.map fun p=>(p.1,p.2.u)
def Q5 (b:Nat) (R:zX W11) (w:World) (v:Value):Prop:=w.ownsRow b 47 5 v R.length (R.flatMap Vc)∧X5 b w R
section
variable {w w':World} {b:Nat} {R:zX W11} {v:Value}
theorem X5.later (h:X5 b w R) (hb:Below w.heap.size w w'):X5 b w' R:=fun p hp=>zw (h p hp) hb
theorem X5.keeps (h:X5 b w R) (hk:zN w w'):X5 b w' R:=fun p hp=>vg (h p hp) hk (by decide) (by decide) (by decide)
theorem X5.low (h:X5 b w R) {a:Nat} (ha:a≤b):X5 a w R:=fun p hp=>zv (h p hp) ha
theorem Q5.later (h:Q5 b R w v) (hb:Below w.heap.size w w'):Q5 b R w' v:=⟨zw h.1 hb,h.2.later hb⟩
theorem Q5.keeps (h:Q5 b R w v) (hk:zN w w'):Q5 b R w' v:=⟨vg h.1 hk (by decide) (by decide) (by decide),h.2.keeps hk⟩
theorem Q5.low (h:Q5 b R w v) {a:Nat} (ha:a≤b):Q5 a R w v:=⟨zv h.1 ha,h.2.low ha⟩
theorem Q5.rw (h:Q5 b R w v):Q4 R w v:=Q4.of_own h.1
theorem Q5.nil (b:Nat) (w:World):Q5 b [] w (.slice none 0 0):=⟨World.ownsRow_nil _ _ _ _,(fun _ h=>nomatch h)⟩
end

section
variable [Fr11] {w0 w:World} {D P M G:Nat} {A:zt} {L:zg} {S:zj} {k:Nat}
set_option maxRecDepth 100000 in
theorem XG (ho:zl w0 w D P M G A L S) (hg:zs A L S k):Calls Tryz.prog 45 #[.pointer (some ⟨D,0,none⟩)] w fun e w'=>∃ v R,e=.returned v∧Q5 w.heap.size R w' v∧ZM R=zm A L S∧Below w.heap.size w w':=by
  have HN:=za (uZ ho hg.rise hg.few)
  have HT:Hid (∀ W n,Below w.heap.size w W→n.size≤9223372036854775807→Calls Tryz.prog 54 #[.pointer (some ⟨D,0,none⟩),.string n] W fun e w'=>∃ v,e=.returned v∧qV A L S n w w' v∧Below W.heap.size W w'):=fun W n hb hn =>
    (jv n (ho.later hb) hg.grp hn).mono fun e w' ⟨v,he,ht,hb'⟩=>⟨v,he,ht.low hb,hb'⟩
  have HG:=za hg
  have hfew:=hg.few
  clear ho hg
  obtain ⟨i0,hi,hz0,hz1,hz2⟩:=info_parts QI
  obtain ⟨n,hn⟩:∃ n,n=A.length:=⟨_,rfl⟩
  have HLN:Hid (A.length=n):=hn.symm
  rw [← hn] at hfew
  clear hn
  go_enter Tryz.func45,Tryz.ntmps45
  go_wp2_with fail
  with_reducible refine HN.out.mono ?_
  rintro e w1 ⟨v,rfl,hrow,hb⟩
  rw [ym,HLN.out] at hrow
  have hlen:(zb A).length=n:=by rw [ym]; exact HLN.out
  obtain ⟨AA,c,rfl⟩:∃ AA c,v=.slice AA n c:=by
    have:=ve (ls:=zb A) (by rw [hlen]; exact hrow)
    rwa [hlen] at this
  have HRW:=za hrow
  have HB:=za hb
  have HLE:=za hlen
  clear hb hrow HN hlen
  go_wp2
  go_loopg [3,5,9] n (fun gg s3 _ s9 wr=>∃ k:Nat,k≤n∧n - k≤gg∧s9=.int .i64 k∧Hid (Below w.heap.size w wr)∧Hid (wr.ownsRow w.heap.size 9 1 (.slice AA n c) n ((zb A).map encStr))∧∃ R:zX W11,R.length=k∧Hid (ZM R=(zm A L S).take k)∧Hid (wr.ownsRow w.heap.size 47 5 s3 k (R.flatMap Vc))∧Hid (X5 w.heap.size wr R))
  case atStart=>exact ⟨0,Nat.zero_le _,by omega,rfl,HB,HRW,[],rfl,rfl,World.ownsRow_nil _ _ _ _,(fun _ h=>nomatch h)⟩
  case round =>
    obtain ⟨k,hk,hg,rfl,HW,HR2,R,hRl,HPL,HU,HGS⟩:=hrel
    by_cases hlt:k<n
    · have hltz:(k:Int)<(n:Int):=by omega
      have hkl:k<A.length:=by have:=HLN.out; omega
      have hr2:=HR2.out
      have hle:=HLE.out
      obtain ⟨g,cx,e1,hcell⟩:=Ym (ls:=zb A) (by rw [hle]; exact hr2) (zc.refl (fun _=>False) wr) (fun _ _ _ _ _ _ f=>f) (k:=k) (by rw [hle]; exact hlt)
      injection e1 with e1 e2 e3
      subst e1
      subst e3
      clear e2
      have hnm:(zb A)[k]'(by rw [hle]; exact hlt)=A[k].1:=by simp [zb]
      rw [hnm] at hcell
      have hna:A[k]∈A:=List.getElem_mem hkl
      have hsz:(zY A[k].1).size≤9223372036854775807:=by
        rw [ud]
        exact Nat.le_trans (vL (HG.out.nm _ hna).1) (by decide)
      have HTK:=za (HT.out wr (zY A[k].1) HW.out hsz)
      have hgk:xV A A[k].1=some A[k].2:=(zV HG.out.rise).2 hna
      have HTE:Hid (xl L S A[k].1 A[k].2=⟨Zm A A[k].1,yF L A[k].1,uP A A[k].1,yX S A[k].1⟩):=by
        show _=_
        unfold xl Zm uP
        rw [hgk]
      have HTT:Hid ((zm A L S).take (k+1)=(zm A L S).take k++[(A[k].1,xl L S A[k].1 A[k].2)]):=by
        have hkt:k<(zm A L S).length:=by rw [uy]; exact hkl
        show _=_
        rw [List.take_succ_eq_append_getElem hkt]
        congr 1
        simp [zm]
      have HNM:Hid ((zY A[k].1).data.toList=A[k].1):=zU _
      generalize hkn:A[k].1=kn at *
      generalize hsn:zY kn=sn at *
      have HSN:=za hsn
      clear hnm hr2 hle hsz hna hgk hkn hsn
      go_wp2_with fail
      with_reducible refine HTK.out.mono ?_
      rintro e w2 ⟨v,rfl,⟨ga,gc,rfl,hgr⟩,hb⟩
      rw [HNM.out] at hgr ⊢
      have HGR:=za hgr
      have HU2:=za (zw HU.out hb)
      have HR3:=za (zw HR2.out hb)
      have HGS2:=za (HGS.out.later hb)
      have HB2:=za (z7 HW.out hb)
      clear hgr hb HTK hcell
      generalize hha:zY (Zm A kn)=sh at *
      have HHA:Hid (sh.data.toList=Zm A kn):=by rw [← hha]; exact zU _
      generalize hhm:zY (yF L kn)=sm at *
      have HHM:Hid (sm.data.toList=yF L kn):=by rw [← hhm]; exact zU _
      clear hha hhm
      generalize hdd:uP A kn=dd at *
      generalize hgs:yX S kn=gs at *
      generalize hgl:gs.length=gl at *
      have HGL:=za hgl
      clear hdd hgs hgl
      have hrk:k≤12:=by omega
      go_wp2_with (first
        | (at_builtin; refine wpList_append_own _ rfl _ _ 57 rfl w.heap.size 47 i0 (.agg #[.string ⟨#[]⟩,.string ⟨#[]⟩,.string ⟨#[]⟩,.bool false,.slice none 0 0]) 5 80 Tryz.underlying57 hi hz0 hz1 hz2 rfl (by decide) _ _ _ rfl (HU2.out.alloc _) ⟨w2.heap.size,0,none⟩ 1 1 [.string sn,.string sh,.string sm,.bool dd,.slice ga gl gc] rfl rfl
            (fun j u hu=>by rw [Addr.add_lit,Nat.zero_add,World.cell?_alloc_at _ _ _ _ rfl]; simpa using hu) (by simp [Value.oneCell']) (by unfold maxLen; omega) (by omega) (by have:=HB2.out.size; simp; omega) ?_
           intro v' w3 hown' hgrow _
           have HO:=za hown'
           have HGW:=za hgrow
           clear hown' hgrow)
        | fail)
      go_roundg (n - (k+1))
      case measure=>omega
      case rel =>
        refine ⟨k+1,by omega,by omega,by go_num,(show Hid _ from ?_),(show Hid _ from ?_),R++[(kn,⟨sh,sm,dd,ga,gs,gc⟩)],by rw [List.length_append,hRl]; rfl,(show Hid _ from ?_),(show Hid _ from ?_),(show Hid _ from ?_)⟩
        · exact (z7 HB2.out (z8 (Below.refl _ _) _)).grown HGW.out (by have:=HB2.out.size; simp; omega) (fun j hj=>(HU2.out.lt j hj).1)
        · exact (HR3.out.alloc _).kept HGW.out (ug HR3.out HU2.out (by decide))
        · show ZM _=_
          rw [HTT.out,HTE.out,← HPL.out]
          unfold ZM
          rw [List.map_append]
          show _++[(kn,W11.u ⟨sh,sm,dd,ga,gs,gc⟩)]=_
          unfold W11.u
          rw [HHA.out,HHM.out]
        · rw [List.flatMap_append]
          have ho:=HO.out
          have e:[(kn,(⟨sh,sm,dd,ga,gs,gc⟩:W11))].flatMap Vc=[.string sn,.string sh,.string sm,.bool dd,.slice ga gl gc]:=by
            simp [Vc,HSN.out,HGL.out]
          rw [e]
          exact ho
        · intro p hp
          rcases List.mem_append.1 hp with hp | hp
          · have h:=HGS2.out p hp
            exact (h.alloc _).kept HGW.out (ug h HU2.out (by decide))
          · obtain rfl:=List.mem_singleton.1 hp
            have h:=HGR.out
            show World.ownsRow _ _ _ _ (.slice ga gs.length gc) gs.length (gs.map encStr)
            rw [HGL.out]
            exact (h.alloc _).kept HGW.out (ug h HU2.out (by decide))
    · have hltz:¬ (k:Int)<(n:Int):=by omega
      obtain rfl:k=n:=by omega
      go_wp2
      go_ret
      have hp:=HPL.out
      have hu:=HU.out
      rw [← hRl] at hu
      rw [List.take_of_length_le (by rw [uy,HLN.out]; exact Nat.le_refl _)] at hp
      exact ⟨_,rfl,R,⟨hu,HGS.out⟩,hp,HW.out⟩
end
end Go.Proofs.YthmomkjingcbiaaGreatDoor
namespace Go.Proofs.YthmomkjingcbiaaGreatDoor
open Go.RowKit Go.Maps

section
variable {W W':World} {b:Nat} {v1 v2:Value}
theorem alloc_at11 {W:World} {o:Obj} {n:Nat} (h:W.heap.size=n):(W.alloc o).heap[n]? = some o:=by
 subst h
 exact (MapKept.heap_alloc W _).1
end



theorem X5.put {b:Nat} {w:World} {R:zX W11} (h:X5 b w R) (n:List UInt8) (x:W11) (hx:w.ownsRow b 9 1 (.slice x.ga x.gs.length x.gc) x.gs.length (x.gs.map encStr)):X5 b w (yB R n x):=fun p hp=>by
 rcases yf.1 hp with rfl | ⟨hp,_⟩
 ·
  exact hx
 ·
  exact h p hp
theorem X5.del {b:Nat} {w:World} {R:zX W11} (h:X5 b w R) (n:List UInt8):X5 b w (vR R n):=fun p hp=>h p (xQ.1 hp).1
theorem X5.get {b:Nat} {w:World} {R:zX W11} (h:X5 b w R) (hr:zB R) {n:List UInt8} {x:W11} (hx:xV R n=some x):NmR w (.slice x.ga x.gs.length x.gc) x.gs:=zv (h (n,x) ((zV hr).1 hx)) (Nat.zero_le _)

theorem blk_later11 {W W':World} {B:Nat} {a b c d e:Value} (h:yU W B a b c d e) (hb:Below W.heap.size W W'):yU W' B a b c d e:=(hb.block B h.lt).trans h



end Go.Proofs.YthmomkjingcbiaaGreatDoor
namespace Go.Proofs.YthmomkjingcbiaaGreatDoor
open Go.RowKit Go.Maps Go.Sort Go.Shelf
set_option linter.unusedVariables false

def xX (G:List ByteArray):List (List UInt8):=G.map (·.data.toList)

def yN (G:List ByteArray) (pre:List Us) (u:Us):Int :=
 if u.gs.all (fun g=>fO (xX G) g.data.toList) then (if pre.any (fun v=>!(u.ml.data.toList == []) && (u.ml.data.toList == v.ml.data.toList)) then 9 else 0) else 8
def yk (G:List ByteArray):List Us→List Us→Int
 | _,[]=>0
 | pre,u::r=>if yN G pre u=0 then yk G (pre++[u]) r else yN G pre u
def vJ (l:List Us) (G:List ByteArray):Int :=
 if fC l=0 then (if zM G then (if zA G then (if G.length≤6 then yk G [] l else 7) else 9) else 10) else fC l
theorem Qn {G:List ByteArray} {l:List Us} {k:Nat} (hk:k<l.length):yk G (l.take k) (l.drop k)=if yN G (l.take k) l[k]=0 then yk G (l.take (k+1)) (l.drop (k+1)) else yN G (l.take k) l[k]:=by
 rw [List.drop_eq_getElem_cons hk,List.take_succ_eq_append_getElem hk]
 rfl

end Go.Proofs.YthmomkjingcbiaaGreatDoor
namespace Go.Proofs.YthmomkjingcbiaaGreatDoor
open Go.RowKit Go.Maps Go.Shelf
set_option linter.unusedSectionVars false

def Fw (A:zt) (W:World) (v:Value) (F:Nat→Prop):Prop:=∃ b,v=.map (some b)∧zW W b A∧F b
def Fu (L:zg) (W:World) (v:Value) (F:Nat→Prop):Prop:=∃ M p q LM,v=.pointer (some ⟨M,0,none⟩)∧va W M p q L LM∧∀ i,vY M p q i→F i
def Fv (S:zj) (W:World) (v:Value) (F:Nat→Prop):Prop:=∃ G pg T,v=.pointer (some ⟨G,0,none⟩)∧zF W G pg T∧zh T=S∧∀ i,vZ G pg T i→F i
def Vk (w W:World) (A:zt) (L:zg) (S:zj) (P M G:Nat):Prop :=
 ∃ p q LM pg T,zW W P A∧va W M p q L LM∧zF W G pg T∧zh T=S∧(∀ i,vY M p q i→i≠P)∧(∀ i,vZ G pg T i→i≠P)∧(∀ i,vY M p q i→vZ G pg T i→False)∧(∀ i,i=P∨vY M p q i∨vZ G pg T i→w.heap.size≤i)
def YCo11 (D P M G:Nat):Nat→Value→Prop
 | 3,v=>v=.map (some P)
 | 7,v=>v=.pointer (some ⟨D,1,none⟩)
 | 8,v=>v=.pointer (some ⟨M,0,none⟩)
 | 12,v=>v=.pointer (some ⟨D,2,none⟩)
 | 13,v=>v=.pointer (some ⟨G,0,none⟩)
 | 4,_=>True
 | 9,_=>True
 | 14,_=>True
 | 15,_=>True
 | 16,_=>True
 | 17,_=>True
 | _,v=>v=.pointer (some ⟨D,0,none⟩)
structure Co11 [Fr11] (w:World) (D P M G:Nat) (A:zt) (L:zg) (S:zj) (E:Nat→Bool) (x:Nat→Value) (W:World):Prop where
 b:Below w.heap.size w W
 y:∀ {j:Nat},E j=true→YCo11 D P M G j (x j)
 f:∃ F4 F9 F14:Nat→Prop,(E 4=true→Fw A W (x 4) F4)∧(E 9=true→Fu L W (x 9) F9)∧(E 14=true→Fv S W (x 14) F14) ∧
  (∀ i,F4 i∨F9 i∨F14 i→w.heap.size≤i∧i<W.heap.size)∧(∀ i,F4 i→F9 i→False)∧(∀ i,F4 i→F14 i→False)∧(∀ i,F9 i→F14 i→False)
 y15:E 15=true→∃ P' M' G',x 15=.agg #[.map (some P'),.pointer (some ⟨M',0,none⟩),.pointer (some ⟨G',0,none⟩)]∧Vk w W A L S P' M' G'
 y16:E 16=true→∃ D' P' M' G',x 16=.pointer (some ⟨D',0,none⟩)∧zl w W D' P' M' G' A L S
 y17:E 17=true→∃ D' P' M' G',x 17=.pointer (some ⟨D',0,none⟩)∧zl w W D' P' M' G' A L S

section
variable [Fr11] {w W W':World} {D P M G:Nat} {A:zt} {L:zg} {S:zj} {E:Nat→Bool} {x:Nat→Value}
theorem Vk.later {P' M' G':Nat} (h:Vk w W A L S P' M' G') (hb:Below W.heap.size W W'):Vk w W' A L S P' M' G':=by
 obtain ⟨p,q,LM,pg,T,h1,h2,h3,h4⟩:=h
 exact ⟨p,q,LM,pg,T,h1.kept (hb.block _ h1.lt),h2.later hb,h3.later hb,h4⟩
theorem Fw.later {v:Value} {F:Nat→Prop} (h:Fw A W v F) (hb:Below W.heap.size W W'):Fw A W' v F:=by
 obtain ⟨b,e,h1,h2⟩:=h
 exact ⟨b,e,h1.kept (hb.block _ h1.lt),h2⟩
theorem Fu.later {v:Value} {F:Nat→Prop} (h:Fu L W v F) (hb:Below W.heap.size W W'):Fu L W' v F:=by
 obtain ⟨M,p,q,LM,e,h1,h2⟩:=h
 exact ⟨M,p,q,LM,e,h1.later hb,h2⟩
theorem Fv.later {v:Value} {F:Nat→Prop} (h:Fv S W v F) (hb:Below W.heap.size W W'):Fv S W' v F:=by
 obtain ⟨G,pg,T,e,h1,h2⟩:=h
 exact ⟨G,pg,T,e,h1.later hb,h2⟩
theorem vb {x:Nat→Value} {i:Nat} {v:Value}:upd x i v i=v:=if_pos rfl
theorem xk {x:Nat→Value} {i j:Nat} {v:Value} (h:j≠i):upd x i v j=x j:=if_neg h
theorem yL {E:Nat→Bool} {i j:Nat} (h:j≠i):xE E i j=E j:=if_neg h
theorem Co11.more (h:Co11 w D P M G A L S E x W) (i:Nat) (v:Value) (hb:Below W.heap.size W W') (hy:YCo11 D P M G i v)
  (h4:i=4→Fw A W' v (fun j=>W.heap.size≤j∧j<W'.heap.size)) (h9:i=9→Fu L W' v (fun j=>W.heap.size≤j∧j<W'.heap.size)) (h14:i=14→Fv S W' v (fun j=>W.heap.size≤j∧j<W'.heap.size))
  (h15:i=15→∃ P' M' G',v=.agg #[.map (some P'),.pointer (some ⟨M',0,none⟩),.pointer (some ⟨G',0,none⟩)]∧Vk w W' A L S P' M' G') (h16:i=16→∃ D' P' M' G',v=.pointer (some ⟨D',0,none⟩)∧zl w W' D' P' M' G' A L S) (h17:i=17→∃ D' P' M' G',v=.pointer (some ⟨D',0,none⟩)∧zl w W' D' P' M' G' A L S) :
  Co11 w D P M G A L S (xE E i) (upd x i v) W':=by
 refine ⟨z7 h.b hb,fun {j} hd=>?_,?_,fun hd=>?_,fun hd=>?_,fun hd=>?_⟩
 ·
  by_cases e:j=i
  ·
   subst e; rw [vb]; exact hy
  ·
   rw [xk e]; rw [yL e] at hd; exact h.y hd
 ·
  obtain ⟨F4,F9,F14,g4,g9,g14,hr,d1,d2,d3⟩:=h.f
  have hs:=hb.size
  have hw:=h.b.size
  by_cases i4:i=4
  ·
   subst i4
   refine ⟨(fun j=>W.heap.size≤j∧j<W'.heap.size),F9,F14,fun _=>by rw [vb]; exact h4 rfl,fun hd=>?_,fun hd=>?_,?_,?_,?_,d3⟩
   ·
    rw [xk (by decide)]; rw [yL (by decide)] at hd; exact (g9 hd).later hb
   ·
    rw [xk (by decide)]; rw [yL (by decide)] at hd; exact (g14 hd).later hb
   ·
    rintro j (h1 | h1 | h1)
    ·
     omega
    ·
     have:=hr j (.inr (.inl h1)); omega
    ·
     have:=hr j (.inr (.inr h1)); omega
   ·
    intro j h1 h2; have:=hr j (.inr (.inl h2)); omega
   ·
    intro j h1 h2; have:=hr j (.inr (.inr h2)); omega
  ·
   by_cases i9:i=9
   ·
    subst i9
    refine ⟨F4,(fun j=>W.heap.size≤j∧j<W'.heap.size),F14,fun hd=>?_,fun _=>by rw [vb]; exact h9 rfl,fun hd=>?_,?_,?_,d2,?_⟩
    ·
     rw [xk (by decide)]; rw [yL (by decide)] at hd; exact (g4 hd).later hb
    ·
     rw [xk (by decide)]; rw [yL (by decide)] at hd; exact (g14 hd).later hb
    ·
     rintro j (h1 | h1 | h1)
     ·
      have:=hr j (.inl h1); omega
     ·
      omega
     ·
      have:=hr j (.inr (.inr h1)); omega
    ·
     intro j h1 h2; have:=hr j (.inl h1); omega
    ·
     intro j h1 h2; have:=hr j (.inr (.inr h2)); omega
   ·
    by_cases i14:i=14
    ·
     subst i14
     refine ⟨F4,F9,(fun j=>W.heap.size≤j∧j<W'.heap.size),fun hd=>?_,fun hd=>?_,fun _=>by rw [vb]; exact h14 rfl,?_,d1,?_,?_⟩
     ·
      rw [xk (by decide)]; rw [yL (by decide)] at hd; exact (g4 hd).later hb
     ·
      rw [xk (by decide)]; rw [yL (by decide)] at hd; exact (g9 hd).later hb
     ·
      rintro j (h1 | h1 | h1)
      ·
       have:=hr j (.inl h1); omega
      ·
       have:=hr j (.inr (.inl h1)); omega
      ·
       omega
     ·
      intro j h1 h2; have:=hr j (.inl h1); omega
     ·
      intro j h1 h2; have:=hr j (.inr (.inl h1)); omega
    ·
     refine ⟨F4,F9,F14,fun hd=>?_,fun hd=>?_,fun hd=>?_,fun j hj=>⟨(hr j hj).1,Nat.lt_of_lt_of_le (hr j hj).2 hs⟩,d1,d2,d3⟩
     ·
      rw [xk (Ne.symm i4)]; rw [yL (Ne.symm i4)] at hd; exact (g4 hd).later hb
     ·
      rw [xk (Ne.symm i9)]; rw [yL (Ne.symm i9)] at hd; exact (g9 hd).later hb
     ·
      rw [xk (Ne.symm i14)]; rw [yL (Ne.symm i14)] at hd; exact (g14 hd).later hb
 ·
  by_cases e:15=i
  ·
   subst e; rw [vb]; exact h15 rfl
  ·
   rw [xk e]; rw [yL e] at hd; obtain ⟨a,b,c,e1,e2⟩:=h.y15 hd; exact ⟨a,b,c,e1,e2.later hb⟩
 ·
  by_cases e:16=i
  ·
   subst e; rw [vb]; exact h16 rfl
  ·
   rw [xk e]; rw [yL e] at hd; obtain ⟨a,b,c,d,e1,e2⟩:=h.y16 hd; exact ⟨a,b,c,d,e1,e2.later hb⟩
 ·
  by_cases e:17=i
  ·
   subst e; rw [vb]; exact h17 rfl
  ·
   rw [xk e]; rw [yL e] at hd; obtain ⟨a,b,c,d,e1,e2⟩:=h.y17 hd; exact ⟨a,b,c,d,e1,e2.later hb⟩
theorem Co11.quiet (h:Co11 w D P M G A L S E x W) (i:Nat) {v:Value} (hy:YCo11 D P M G i v) (hi:[4,9,14,15,16,17].contains i=false:=by rfl):Co11 w D P M G A L S (xE E i) (upd x i v) W :=
 h.more i v (Below.refl _ _) hy (fun e=>by subst e; cases hi) (fun e=>by subst e; cases hi) (fun e=>by subst e; cases hi) (fun e=>by subst e; cases hi) (fun e=>by subst e; cases hi) (fun e=>by subst e; cases hi)
theorem Co11.start (w:World) (x:Nat→Value):Co11 w D P M G A L S (fun _=>false) x w.drew :=
 ⟨zz (Below.refl _ _),(fun {_} h=>nomatch h),⟨(fun _=>False),(fun _=>False),(fun _=>False),(fun h=>nomatch h),(fun h=>nomatch h),(fun h=>nomatch h),(fun _ h=>by rcases h with h | h | h <;> exact h.elim),(fun _ h _=>h),(fun _ h _=>h),(fun _ h _=>h)⟩,(fun h=>nomatch h),(fun h=>nomatch h),(fun h=>nomatch h)⟩
end

section
variable [Fr11] {w0 w:World} {D P M G:Nat} {A:zt} {L:zg} {S:zj} {k:Nat}
end
end Go.Proofs.YthmomkjingcbiaaGreatDoor
namespace Go.Proofs.YthmomkjingcbiaaGreatDoor
open Go.RowKit Go.Maps

section
variable {L:zX W11} {n h:List UInt8}
end





section
variable {T:xI} {kd:Nat} {a b:List UInt8}
end
end Go.Proofs.YthmomkjingcbiaaGreatDoor
namespace Go.Proofs.YthmomkjingcbiaaGreatDoor
open Go.RowKit Go.Maps
set_option linter.unusedSectionVars false
set_option linter.unusedVariables false

section
variable {W W':World} {b kd:Nat} {x y:ByteArray} {z:Bool}
end
section
variable [Fr11] {w0 W:World} {D P M G:Nat} {A:zt} {L:zg} {S:zj} {k:Nat}












end
end Go.Proofs.YthmomkjingcbiaaGreatDoor
namespace Go.Proofs.YthmomkjingcbiaaGreatDoor
open Go.RowKit Go.Maps Go.Shelf



def Ji (q:List UInt8×W11):Us:=⟨zY q.1,q.2.hs,q.2.ml,q.2.dis,q.2.ga,q.2.gs.map zY,q.2.gc⟩
theorem Q7 (q:List UInt8×W11):(Ji q).cells=(Vc q).toArray:=by
 unfold Ji Us.cells Vc
 simp
theorem rd_us11 {w:World} {A:Option Addr} {c n:Nat} {R:zX W11} (h:jR w (.slice A n c) R):n=(R.map Ji).length∧Z9 w A (R.map Ji):=by
 obtain ⟨A',c',e,hc⟩:=h
 injection e with e1 e2 e3
 subst e1 e2 e3
 refine ⟨by simp,fun hne=>?_⟩
 have h0:0<R.length:=by
  rcases R with _ | ⟨q,r⟩
  ·
   exact absurd rfl hne
  ·
   exact Nat.succ_pos _
 obtain ⟨g,e,hg⟩:=hc 0 h0
 refine ⟨g,0,e,World.block_lt_of_cell? w _ (hg 0 _ rfl),fun i hi j u hu=>?_⟩
 have hi':i<R.length:=by simpa using hi
 obtain ⟨g',e',hg'⟩:=hc i hi'
 rw [e] at e'
 injection e' with e'
 injection e' with e'
 subst e'
 have hu':(Vc R[i])[j]? = some u:=by
  rw [List.getElem_map,Q7] at hu
  simpa using hu
 have:=hg' j u hu'
 rwa [Nat.zero_add]
structure Short11 (T:xI):Prop where
 few:T.length≤12
 nm:∀ p∈T,p.1.length≤1000
 hs:∀ p∈T,p.2.hs.length≤1000
 ml:∀ p∈T,p.2.ml.length≤1000
 gs:∀ p∈T,∀ g∈p.2.gs,g.length≤1000
theorem short11 {A:zt} {L:zg} {S:zj} {k:Nat} (hg:zs A L S k):Short11 (zm A L S):=by
 have hq:∀ p∈zm A L S,∃ q∈A,p=(q.1,xl L S q.1 q.2):=fun p hp=>by
  obtain ⟨q,hq,e⟩:=List.mem_map.1 hp
  exact ⟨q,hq,e.symm⟩
 refine ⟨by rw [uy]; exact hg.few,fun p hp=>?_,fun p hp=>?_,fun p hp=>?_,fun p hp g hgg=>?_⟩
 ·
  obtain ⟨q,hq,rfl⟩:=hq p hp
  exact Nat.le_trans (vL (hg.nm q hq).1) (by decide)
 ·
  obtain ⟨q,hq,rfl⟩:=hq p hp
  exact Y0 (hg.nm q hq).2
 ·
  obtain ⟨q,hq,rfl⟩:=hq p hp
  show (yF L q.1).length≤1000
  cases hh:yb L q.1 with
  | false=>rw [yC hh]; simp
  | true =>
   have:=hg.all _ (xz hh)
   exact Nat.le_trans (fI this.2.1) (by decide)
 ·
  obtain ⟨q,hq,rfl⟩:=hq p hp
  have h1:=jX hgg
  obtain ⟨x,hx,rfl⟩:=List.mem_map.1 h1
  exact Nat.le_trans (vL (hg.grp.named x hx)) (by decide)
theorem us11_ok {w:World} {q:List UInt8×W11} (hr:w.ownsRow 0 9 1 (.slice q.2.ga q.2.gs.length q.2.gc) q.2.gs.length (q.2.gs.map encStr)) (h1:q.1.length≤1000) (h2:q.2.hs.size≤1000) (h3:q.2.ml.size≤1000) (h4:∀ g∈q.2.gs,g.length≤1000):(Ji q).Ok w:=by
 refine ⟨fun hne=>?_,?_,Nat.le_trans h2 (by decide),Nat.le_trans h3 (by decide),fun hn=>?_,?_,?_,fun s hs=>?_⟩
 ·
  have hn0:0<q.2.gs.length:=by
   rcases hq:q.2.gs with _ | ⟨a,r⟩
   ·
    exact absurd (show (Ji q).gs=[] by unfold Ji; rw [hq]; rfl) hne
   ·
    exact Nat.succ_pos _
  obtain ⟨g,cx,e,c0⟩:=NmR.at_ (N:=q.2.gs) hr (k:=0) hn0
  injection e with e
  refine ⟨g,0,e,World.block_lt_of_cell? w _ c0,fun j hj=>?_⟩
  have hj':j<q.2.gs.length:=by have:(Ji q).gs.length=q.2.gs.length:=List.length_map _; omega
  obtain ⟨g',cx',e',cj⟩:=NmR.at_ (N:=q.2.gs) hr (k:=j) hj'
  injection e' with e'
  rw [e] at e'
  injection e' with e'
  injection e' with e'
  subst e'
  rw [Nat.zero_add,cj]
  have eg:(Ji q).gs[j]=zY q.2.gs[j]:=List.getElem_map ..
  rw [eg]
 ·
  show (zY q.1).size≤_
  rw [ud]; exact Nat.le_trans h1 (by decide)
 ·
  rcases hr.2 with ⟨e,_⟩ | ⟨g,cap,cur,e,_⟩
  ·
   injection e
  ·
   injection e with e; rw [show q.2.ga=none from hn] at e; cases e
 ·
  show (q.2.gs.map zY).length≤q.2.gc
  rw [List.length_map]
  rcases hr.2 with ⟨e,h0⟩ | ⟨g,cap,cur,e,_,_,r1,_⟩
  ·
   omega
  ·
   injection e with _ _ e; omega
 ·
  rcases hr.2 with ⟨e,h0⟩ | ⟨g,cap,cur,e,_,_,r1,r2,_⟩
  ·
   injection e with _ _ e; show q.2.gc≤_; omega
  ·
   injection e with _ _ e
   show q.2.gc≤_
   have:=r2
   unfold maxLen at this
   omega
 ·
  obtain ⟨g,hg,rfl⟩:=List.mem_map.1 hs
  rw [ud]; exact Nat.le_trans (h4 g hg) (by decide)

section
variable {w0 w:World} {D P M G:Nat} {A:zt} {L:zg} {S:zj} {k:Nat}
end
end Go.Proofs.YthmomkjingcbiaaGreatDoor
namespace Go.Proofs.YthmomkjingcbiaaGreatDoor
open Go.ChangeShapes Go.WideShapes Go.ChangeAt Go.RowKit Go.Deep

structure ActN where
 kd:Nat
 nm:ByteArray
 hs:ByteArray
 is_:Bool
def ActN.cells (t:ActN):List Value:=[.int .u8 (t.kd:Int),.string t.nm,.string t.hs,.bool t.is_]

section
variable {H:Type} {enc:TypeId×Value→H} {W:World} {base:Nat} {sp:Nat→Bool} {hd:Bool} {fuel:Nat}

end
end Go.Proofs.YthmomkjingcbiaaGreatDoor
namespace Go.Proofs.YthmomkjingcbiaaGreatDoor
open Go.RowKit Go.Maps




end Go.Proofs.YthmomkjingcbiaaGreatDoor
namespace Go.Proofs.YthmomkjingcbiaaGreatDoor
open Go.RowKit Go.Maps Go.Sort Go.Shelf
set_option linter.unusedVariables false

def uS (w:World) (v:Value) (ls:List (List UInt8)):Prop:=∃ A c,v=.slice A ls.length c∧∀ j (h:j<ls.length),∃ g,A=some ⟨g,0,none⟩∧w.cell? ⟨g,j,none⟩=some (.string (zY ls[j]))
theorem uS.later {w w':World} {v:Value} {ls:List (List UInt8)} (h:uS w v ls) (hb:Below w.heap.size w w'):uS w' v ls:=by
 obtain ⟨A,c,e,hc⟩:=h
 exact ⟨A,c,e,fun j hj=>by obtain ⟨g,e,h⟩:=hc j hj; exact ⟨g,e,(hb.cell (p:=⟨g,j,none⟩) (World.block_lt_of_cell? w _ h)).trans h⟩⟩
theorem uS.nil (w:World):uS w (.slice none 0 0) []:=⟨none,0,rfl,fun _ h=>absurd h (Nat.not_lt_zero _)⟩
theorem uS.of_own {w:World} {base:Nat} {e:TypeId} {v:Value} {ls:List (List UInt8)} (h:w.ownsRow base e 1 v ls.length (ls.map encStr)):uS w v ls:=by
 obtain ⟨A,c,rfl⟩:∃ A c,v=.slice A ls.length c:=by
  rcases h.2 with ⟨rfl,h0⟩ | ⟨g,cap,cur,rfl,_⟩
  ·
   exact ⟨none,0,by rw [h0]⟩
  ·
   exact ⟨_,_,rfl⟩
 refine ⟨A,c,rfl,fun j hj=>?_⟩
 rcases h.2 with ⟨_,h0⟩ | ⟨g,cap,cur,e1,_⟩
 ·
  omega
 ·
  injection e1 with e1
  subst e1
  refine ⟨g,rfl,?_⟩
  have:=h.cells (g:=g) rfl j (encStr ls[j]) (by simp [hj])
  rw [Addr.add_lit,Nat.zero_add] at this
  exact this

set_option maxRecDepth 100000 in
theorem qJ (C:Nat) (pre s:ByteArray) (w:World) (hc:w.cell? ⟨C,0,none⟩=some (.string pre)) :
  Calls Tryz.prog 61 #[.string s,.pointer (some ⟨C,0,none⟩)] w fun e w'=>e=.returned (.bool (!Lib.hasPrefix s.data.toList pre.data.toList))∧w'=w:=by
 have hnot:∀ (x:Bool) (w:World),(Op.unary .not (.bool x)).run Tryz.prog w=.ok (.bool (!x)) w:=fun _ _=>rfl
 have HC:=za (Tryz.strings_HasPrefix s pre w)
 generalize Lib.hasPrefix s.data.toList pre.data.toList=r at *
 go_enter Tryz.func61,Tryz.ntmps61
 go_wp2_with fail
 with_reducible refine HC.out.mono ?_
 rintro e w1 ⟨rfl,rfl⟩
 clear HC hc
 cases r <;> go_wp2 <;> go_ret <;> exact ⟨rfl,rfl⟩

set_option maxRecDepth 100000 in
theorem Zo (fv:Value) (c:Nat) (w:World) (hfv:∃ g lb,fv=.func (.func g) #[] lb):Calls Tryz.prog 58 #[.slice none 0 c,fv] w fun e w'=>e=.returned (.slice none 0 c)∧w'=w:=by
 obtain ⟨g,lb,rfl⟩:=hfv
 have HI:=za (Tryz.slices_IndexFunc_empty_f135 (α:=List UInt8) none c (.func (.func g) #[] lb) w)
 go_enter Tryz.func58,Tryz.ntmps58
 go_wp2_with (go_at_call 135; (with_reducible refine HI.out.mono ?_); rintro e w' ⟨rfl,rfl⟩)
 go_ret
 exact ⟨rfl,rfl⟩

def up (ls:List (List UInt8)) (pre:List UInt8):List (List UInt8):=ls.filter fun x=>Lib.hasPrefix x pre

theorem Vb (base C:Nat) (v:Value) (ls:List (List UInt8)) (pre:ByteArray) (w:World) (hc:w.cell? ⟨C,0,none⟩=some (.string pre)) (hC:C<base) (hbase:base≤w.heap.size) (hv:w.ownsRow base 9 1 v ls.length (ls.map encStr)) :
  Calls Tryz.prog 58 #[v,.func (.func 61) #[] #[.pointer (some ⟨C,0,none⟩)]] w fun e w'=>∃ v',e=.returned v'∧uS w' v' (up ls pre.data.toList)∧Below base w w':=by
 rcases hv.2 with ⟨rfl,h0⟩ | ⟨gb,cap,cur,rfl,hbg,hgb,r1,r2,r3,r4⟩
 ·
  obtain rfl:ls=[]:=List.eq_nil_of_length_eq_zero h0
  exact (Zo _ 0 w ⟨_,_,rfl⟩).mono fun e w' ⟨he,hw⟩=>⟨_,he,uS.nil _,by rw [hw]; exact Below.refl _ _⟩
 ·
  have hH:Holds encStr w gb 0 ls.toArray:=holds_of_block hgb (by simpa using r4)
  have hgl:gb<w.heap.size:=(Array.getElem?_eq_some_iff.1 hgb).1
  have hpa:PredAt Tryz.prog 61 #[.pointer (some ⟨C,0,none⟩)] encStr (fun x=>!Lib.hasPrefix x pre.data.toList) w:=fun W x hb =>
   (qJ C pre ⟨x.toArray⟩ W ((hb.cell (p:=⟨C,0,none⟩) (by show C<_; omega)).trans hc)).mono fun e w' ⟨he,hw⟩=>⟨he,0,hw⟩
  have hpo:PredOver Tryz.prog 61 #[.pointer (some ⟨C,0,none⟩)] encStr (fun x=>!Lib.hasPrefix x pre.data.toList) gb 0 ls.toArray.size w:=fun n os dk x _ =>
   (qJ C pre ⟨x.toArray⟩ _ (by
    unfold sortWorld
    rw [cell?_grow _ _ _ (by show C<(putRow _ _ _ _ _).heap.size; rw [size_putRow]; show C<w.heap.size; omega),cell?_putRow_other _ _ gb 0 _ _ (Or.inl (by show C≠gb; omega))]
    exact hc)).mono fun e w' ⟨he,hw⟩=>⟨he,0,hw⟩
  have hm:maxLen=9223372036854775807:=rfl
  have hd:=Tryz.slices_DeleteFunc encStr (fun _=>rfl) (fun x=>!Lib.hasPrefix x pre.data.toList) _ _ (enters_of Tryz.func61 (by kernel_rfl) rfl) [] (fun w=>Yd w) gb 0 cap ls.toArray w hpa hpo hH (by simp; omega) (by simpa using r1)
  have e1:(ls.toArray.toList.filter fun x=>!(fun x=>!Lib.hasPrefix x pre.data.toList) x)=up ls pre.data.toList:=by simp [up]
  rw [e1] at hd
  have hls:(up ls pre.data.toList).length≤ls.length:=List.length_filter_le _ _
  generalize up ls pre.data.toList=r at *
  refine (show Calls _ _ #[.slice (some ⟨gb,0,none⟩) ls.toArray.size cap,_] _ _ from hd.mono ?_)
  rintro e w' ⟨rfl,q,rfl⟩
  refine ⟨_,rfl,⟨_,_,rfl,fun j hj=>⟨gb,rfl,?_⟩⟩,?_⟩
  ·
   have:=cell?_putRow encStr (Sort.ahead w q) gb 0 ls.toArray (r++List.replicate (ls.toArray.size - r.length) []).toArray (holds_ahead _ _ _ _ _ _ hH) (by simp; omega) j (by simp; omega)
   rw [Nat.zero_add] at this
   rw [this,getElem!_pos _ j (by simp; omega)]
   simp [List.getElem_append_left hj,zY,encStr]
  ·
   have hg:=grownBy_sorted (w:=w) (g:=gb) (n:=q) (os:=#[]) (r++List.replicate (ls.toArray.size - r.length) []).toArray
   rw [grow_empty] at hg
   exact (Below.refl base w).grown hg hbase (fun k hk=>by cases hk; exact hbg)

set_option maxRecDepth 100000 in
theorem Qi (v1 v2:Value) (ls:List (List UInt8)) (w:World) (h1:uS w v1 ls) (h2:uS w v2 ls) (hn:ls.length≤9223372036854775807):Calls Tryz.prog 21 #[v1,v2] w (zQ true w):=by
 obtain ⟨A1,c1,rfl,hc1⟩:=h1
 obtain ⟨A2,c2,rfl,hc2⟩:=h2
 have HC1:=za hc1
 have HC2:=za hc2
 clear hc1 hc2
 obtain ⟨n,hln⟩:∃ n,n=ls.length:=⟨_,rfl⟩
 rw [← hln] at hn ⊢
 have HL:=za hln
 clear hln
 go_enter Tryz.func21,Tryz.ntmps21
 go_wp2
 go_loopg [5,13] n (fun gg _ s13 wr=>∃ k:Nat,k≤n∧n - k≤gg∧s13=.int .i64 k∧Hid (Below w.heap.size w wr))
 case atStart=>exact ⟨0,Nat.zero_le _,by omega,rfl,Below.refl _ _⟩
 case round =>
  obtain ⟨k,hk,hg,rfl,HW⟩:=hrel
  by_cases hlt:k<n
  ·
   have hltz:(k:Int)<(n:Int):=by omega
   obtain ⟨g1,rfl,d1⟩:=HC1.out k (HL.out ▸ hlt)
   obtain ⟨g2,rfl,d2⟩:=HC2.out k (HL.out ▸ hlt)
   generalize zY (ls[k]'(HL.out ▸ hlt))=s at *
   have n1:(s.toList != s.toList)=false:=by simp
   have n2:(s.toList == s.toList)=true:=by simp
   have e1:=(HW.out.cell (p:=⟨g1,k,none⟩) (World.block_lt_of_cell? w _ d1)).trans d1
   have e2:=(HW.out.cell (p:=⟨g2,k,none⟩) (World.block_lt_of_cell? w _ d2)).trans d2
   clear d1 d2
   go_wp2
   go_quiet (fail)
   go_wp2
   go_roundg (n - (k+1))
   case measure=>omega
   case rel=>exact ⟨k+1,by omega,by omega,by go_num,zo HW.out _⟩
  ·
   have hltz:¬ (k:Int)<(n:Int):=by omega
   obtain rfl:k=n:=by omega
   go_wp2
   go_ret
   exact ⟨rfl,HW.out⟩


def XM (N:List (List UInt8)) (pre:List UInt8):List (List UInt8):=if xF pre then up N pre else []
section
variable {w0 w:World} {D P M G:Nat} {A:zt} {L:zg} {S:zj}
set_option maxRecDepth 100000 in
theorem Yy (pre:ByteArray) (ho:zl w0 w D P M G A L S) (hri:zB A) (hf:A.length≤12) (hp:pre.size≤9223372036854775807) :
  Calls Tryz.prog 20 #[.pointer (some ⟨D,0,none⟩),.string pre] w fun e w'=>∃ v,e=.returned (.tuple #[v,.int .i64 (ze (xF pre.data.toList) 10)])∧uS w' v (XM (zb A) pre.data.toList)∧Below w.heap.size w w':=by
 have hmf:=mkf
 have bl:=z8 (Below.refl w.heap.size w) (.cells #[.string pre] 9)
 have HP:=za (jK pre (w.alloc (.cells #[.string pre] 9)) hp)
 have HX:Hid ((w.alloc (.cells #[.string pre] 9)).cell? ⟨w.heap.size,0,none⟩=some (.string pre)):=by show _=_; simp
 have HBL:=za bl
 have HNM:Hid (∀ W,Below (w.alloc (.cells #[.string pre] 9)).heap.size (w.alloc (.cells #[.string pre] 9)) W→Calls Tryz.prog 62 #[.pointer (some ⟨D,0,none⟩)] W (zR (zb A) W)):=fun W hb=>uZ (ho.later (z7 bl hb)) hri hf
 have hlt:w.heap.size<(w.alloc (.cells #[.string pre] 9)).heap.size:=by simp
 clear ho bl hri hf
 generalize zb A=NN at *
 have HLY:Hid (xF pre.data.toList=true→XM NN pre.data.toList=up NN pre.data.toList):=fun h=>by show _=_; unfold XM; rw [if_pos h]
 have HLN:Hid (xF pre.data.toList=false→XM NN pre.data.toList=[]):=fun h=>by show _=_; unfold XM; rw [if_neg (by rw [h]; decide)]
 generalize XM NN pre.data.toList=LL at *
 generalize xF pre.data.toList=bp at *
 go_enter Tryz.func20,Tryz.ntmps20
 cases bp with
 | false =>
  obtain rfl:=HLN.out rfl
  have HP0:Hid (Calls Tryz.prog 60 #[.string pre] (w.alloc (.cells #[.string pre] 9)) (zP 10 (w.alloc (.cells #[.string pre] 9)))):=HP.out
  clear HP
  go_wp2_with fail
  with_reducible refine HP0.out.mono ?_
  rintro e w2 ⟨rfl,hb⟩
  have HB2:=za (z7 HBL.out hb)
  clear hb HP0
  go_wp2
  go_ret2
  exact ⟨_,rfl,uS.nil _,HB2.out⟩
 | true =>
  obtain rfl:=HLY.out rfl
  have HP0:Hid (Calls Tryz.prog 60 #[.string pre] (w.alloc (.cells #[.string pre] 9)) (zP 0 (w.alloc (.cells #[.string pre] 9)))):=HP.out
  clear HP
  go_wp2_with fail
  generalize w.alloc (.cells #[.string pre] 9)=w1 at *
  generalize hC:w.heap.size=C at *
  with_reducible refine HP0.out.mono ?_
  rintro e w3 ⟨rfl,hb⟩
  have HB3:=za hb
  have HN:=za (HNM.out w3 hb)
  clear hb HP0 HNM
  go_wp2_with fail
  with_reducible refine HN.out.mono ?_
  rintro e w4 ⟨v,rfl,hrow,hb⟩
  obtain ⟨A4,c4,rfl,_⟩:=uS.of_own hrow
  have hd2:=Vb w3.heap.size C _ NN pre w4 (((z7 HB3.out hb).cell (p:=⟨C,0,none⟩) hlt).trans HX.out) (Nat.lt_of_lt_of_le hlt HB3.out.size) hb.size hrow
  have HD2:=za hd2
  have HB34:=za hb
  clear hb hrow HN hd2
  go_wp2_with fail
  with_reducible refine HD2.out.mono ?_
  rintro e w5 ⟨v',rfl,hv',hb⟩
  have HV:=za hv'
  have HB5:=za (show Below w.heap.size w w5 by subst hC; exact z7 HBL.out (HB3.out.trans ((HB34.out.trans hb).mono (HB3.out.size))))
  obtain ⟨A',c',rfl,hvx⟩:=hv'
  clear hb HD2 hvx
  subst hC
  generalize hbl:List.length (up NN pre.data.toList)=nb at *
  go_wp2
  go_ret2
  exact ⟨_,rfl,(show Hid _ from HV).out,HB5.out⟩
end
end Go.Proofs.YthmomkjingcbiaaGreatDoor
