/-
  The texts that the laws of this seat share, part 6: what the code and the document's own answers tell, walked function by function.
  Conditions: each theorem's own.
-/
import Derived.Maps.RangeWalk
import Derived.LoopN
import Derived.Maps.AppendAt
import Derived.Test.YthmomkjingcbiaaGreatDoorMigGBE
set_option maxHeartbeats 16000000
namespace Go.Proofs.YthmomkjingcbiaaGreatDoor
open Go.Maps

abbrev zX (V:Type):=List (List UInt8×V)
section
variable {V:Type}
def zB (L:zX V):Prop:=L.Pairwise (fun p q=>bytesBefore p.1 q.1=true)
def QW (e:V→DataW Unit) (p:List UInt8×V):Lit×DataW Unit:=(.string p.1,e p.2)
def vp (e:V→DataW Unit) (L:zX V):DataW Unit:=.map (L.map (QW e))
def YH (x:List UInt8×V):zX V→zX V
 | []=>[x]
 | y::r=>if bytesBefore x.1 y.1 then x::y::r else y::YH x r
def vR (L:zX V) (k:List UInt8):zX V:=L.filter (fun p=>!(p.1 == k))
def yB (L:zX V) (k:List UInt8) (v:V):zX V:=YH (k,v) (vR L k)
def zE (L:zX V) (k:List UInt8):Bool:=L.any (fun p=>p.1 == k)
def xV (L:zX V) (k:List UInt8):Option V:=(L.find? (fun p=>p.1 == k)).map (·.2)
def zb (L:zX V):List (List UInt8):=L.map (·.1)
def Zb (f:V→V) (L:zX V) (k:List UInt8):zX V:=L.map fun p=>if p.1=k then (p.1,f p.2) else p

theorem UR (e:V→DataW Unit) (x:List UInt8×V):∀ L:zX V,(YH x L).map (QW e)=DataW.insert (QW e x) (L.map (QW e))
 | []=>rfl
 | y::r=>by
  simp only [YH,List.map_cons,DataW.insert]
  have h:(QW e x).1.before (QW e y).1=bytesBefore x.1 y.1:=rfl
  rw [h]
  cases bytesBefore x.1 y.1
  ·
   simp [UR e x r]
  ·
   simp
theorem YX (e:V→DataW Unit) (k:List UInt8):∀ L:zX V,(vR L k).map (QW e)=(L.map (QW e)).filter (fun p=>!p.1.sameKey (.string k))
 | []=>rfl
 | y::r=>by
  have ih:=YX e k r
  unfold vR at ih ⊢
  have h:(QW e y).1.sameKey (.string k)=(y.1 == k):=rfl
  simp only [List.filter_cons,List.map_cons,h]
  cases (y.1 == k) <;> simp [ih]
theorem YW (e:V→DataW Unit) (L:zX V) (k:List UInt8) (v:V):(vp e L).put (.string k) (e v)=vp e (yB L k v):=by
 unfold vp yB
 rw [UR,YX]; rfl
theorem US (e:V→DataW Unit) (L:zX V) (k:List UInt8):(vp e L).del (.string k)=vp e (vR L k):=by
 unfold vp
 rw [YX]; rfl
theorem fc (e:V→DataW Unit) (L:zX V) (k:List UInt8):Maps.has (vp e L) (.string k)=zE L k:=by
 unfold vp zE
 rw [Maps.has_eq,List.any_map]; rfl
theorem Fa (e:V→DataW Unit) (L:zX V) (k:List UInt8) (z:DataW Unit):(vp e L).atKey (.string k) z=match xV L k with | some v=>e v | none=>z:=by
 unfold vp xV
 unfold DataW.atKey
 simp only [List.find?_map]
 have h:((fun p:Lit×DataW Unit=>p.1.sameKey (.string k)) ∘ QW e)=(fun p:List UInt8×V=>p.1 == k):=rfl
 rw [h]
 cases L.find? (fun p=>p.1 == k) <;> rfl
theorem vk (e:V→DataW Unit) (L:zX V):Maps.size (vp e L)=L.length:=by simp [vp,Maps.size]
theorem datV_upd {e:V→DataW Unit} {f:V→V} (hf:∀ v,e (f v)=e v) (L:zX V) (k:List UInt8):vp e (Zb f L k)=vp e L:=by
 unfold vp Zb
 rw [List.map_map]
 congr 1
 refine List.map_congr_left fun p _=>?_
 show QW e (if p.1=k then (p.1,f p.2) else p)=QW e p
 split
 ·
  unfold QW; rw [hf]
 ·
  rfl

theorem YA {x y:List UInt8×V}:∀ {L:zX V},y∈YH x L↔y=x∨y∈L
 | []=>by simp [YH]
 | z::r=>by
  unfold YH
  split
  ·
   simp
  ·
   simp only [List.mem_cons,YA (L:=r)]
   constructor
   ·
    rintro (h | h | h)
    ·
     exact .inr (.inl h)
    ·
     exact .inl h
    ·
     exact .inr (.inr h)
   ·
    rintro (h | h | h)
    ·
     exact .inr (.inl h)
    ·
     exact .inl h
    ·
     exact .inr (.inr h)
theorem xQ {L:zX V} {k:List UInt8} {p:List UInt8×V}:p∈vR L k↔p∈L∧p.1≠k:=by
 unfold vR; simp
theorem yf {L:zX V} {k:List UInt8} {v:V} {p:List UInt8×V}:p∈yB L k v↔p=(k,v)∨(p∈L∧p.1≠k):=by
 unfold yB
 rw [YA,xQ]
theorem xc {L:zX V} (h:zB L) (k:List UInt8):zB (vR L k):=h.filter _
theorem Xq {x:List UInt8×V}:∀ {L:zX V},zB L→(∀ p∈L,p.1≠x.1)→zB (YH x L)
 | [],_,_=>by simp [YH,zB]
 | y::r,h,hn=>by
  unfold YH
  obtain ⟨h1,h2⟩:=List.pairwise_cons.1 h
  split
  ·
   rename_i hb
   exact List.pairwise_cons.2 ⟨fun p hp=>by
    rcases List.mem_cons.1 hp with rfl | hp
    ·
     exact hb
    ·
     exact WideShapes.bytes_trans _ _ _ hb (h1 p hp),h⟩
  ·
   rename_i hb
   have hyx:bytesBefore y.1 x.1=true:=by
    rcases WideAt.bytes_total y.1 x.1 (hn y (by simp)) with h' | h'
    ·
     exact h'
    ·
     exact absurd h' hb
   exact List.pairwise_cons.2 ⟨fun p hp=>by
    rcases YA.1 hp with rfl | hp
    ·
     exact hyx
    ·
     exact h1 p hp,Xq h2 (fun p hp=>hn p (by simp [hp]))⟩
theorem yJ {L:zX V} (h:zB L) (k:List UInt8) (v:V):zB (yB L k v) :=
 Xq (xc h k) (fun _ hp=>(xQ.1 hp).2)
theorem qZ (f:V→V) (L:zX V) (k:List UInt8):zb (Zb f L k)=zb L:=by
 unfold zb Zb
 rw [List.map_map]
 refine List.map_congr_left fun p _=>?_
 show (if p.1=k then (p.1,f p.2) else p).1=p.1
 split <;> rfl
theorem yQ {W:Type} {L:zX V} {L':zX W} (h:zB L) (e:zb L'=zb L):zB L':=by
 have h1:(zb L).Pairwise (fun a b=>bytesBefore a b=true):=List.pairwise_map.2 h
 rw [← e] at h1
 exact List.pairwise_map.1 h1
theorem fy {L:zX V} (h:zB L) (f:V→V) (k:List UInt8):zB (Zb f L k):=yQ h (qZ f L k)

theorem xf {L:zX V} {k:List UInt8}:zE L k=true↔∃ p∈L,p.1=k:=by simp [zE]
theorem yo {L:zX V} {k:List UInt8}:zE L k=true↔k∈zb L:=by
 rw [xf]
 simp [zb]
theorem uD {L:zX V} {k:List UInt8}:zE L k=false↔k∉zb L:=by
 rw [← yo]; simp
theorem fX {L:zX V} {k:List UInt8} (h:zE L k=false):vR L k=L:=by
 unfold vR; rw [List.filter_eq_self]
 intro p hp
 cases e:(p.1 == k)
 ·
  rfl
 ·
  have:zE L k=true:=xf.2 ⟨p,hp,by simpa using e⟩
  rw [h] at this; cases this
theorem qm (x:List UInt8×V):∀ L:zX V,(YH x L).length=L.length+1
 | []=>rfl
 | y::r=>by unfold YH; split <;> simp [qm x r]
theorem U7 (L:zX V) (k:List UInt8):(vR L k).length≤L.length:=List.length_filter_le _ _
theorem delV_lt {L:zX V} {k:List UInt8} (h:zE L k=true):(vR L k).length<L.length:=by
 unfold vR
 obtain ⟨p,hp,e⟩:=xf.1 h
 rcases Nat.lt_or_ge (L.filter fun p=>!(p.1 == k)).length L.length with h1 | h1
 ·
  exact h1
 ·
  have h2:=List.filter_eq_self.1 (List.length_filter_eq_length_iff.1 (Nat.le_antisymm (List.length_filter_le _ _) h1) |> List.filter_eq_self.2)
  have:=h2 p hp
  simp [e] at this
theorem VK (L:zX V) (k:List UInt8) (v:V):(yB L k v).length≤L.length+1:=by
 unfold yB
 rw [qm]
 have:=U7 L k
 omega
theorem FV {L:zX V} {k:List UInt8} (v:V) (h:zE L k=true):(yB L k v).length≤L.length:=by
 unfold yB
 rw [qm]
 have:=delV_lt h
 omega
theorem zV {L:zX V} (hr:zB L) {k:List UInt8} {v:V}:xV L k=some v↔(k,v)∈L:=by
 induction L with
 | nil=>simp [xV]
 | cons y r ih =>
  obtain ⟨h1,h2⟩:=List.pairwise_cons.1 hr
  unfold xV at ih ⊢
  rw [List.find?_cons]
  by_cases e:y.1=k
  ·
   have e':(y.1 == k)=true:=by simpa using e
   simp only [e',Option.map_some,Option.some.injEq,List.mem_cons]
   constructor
   ·
    intro h; left; rw [← h,← e]
   ·
    rintro (h | h)
    ·
     rw [← h]
    ·
     exact absurd (h1 _ h) (by rw [e,zn]; exact Bool.noConfusion)
  ·
   have e':(y.1 == k)=false:=by simpa using e
   simp only [e',List.mem_cons]
   rw [ih h2]
   constructor
   ·
    exact .inr
   ·
    rintro (h | h)
    ·
     exact absurd (by rw [← h]) e
    ·
     exact h
theorem ul {L:zX V} {k:List UInt8}:xV L k=none↔zE L k=false:=by
 unfold xV zE
 rw [Option.map_eq_none_iff,List.find?_eq_none,List.any_eq_false]
theorem YM {L:zX V} {k:List UInt8} (h:zE L k=true):∃ v,xV L k=some v:=by
 cases hg:xV L k
 ·
  rw [ul.1 hg] at h; cases h
 ·
  exact ⟨_,rfl⟩
theorem Xp {L:zX V} (hr:zB L) {p q:List UInt8×V} (hp:p∈L) (hq:q∈L) (e:p.1=q.1):p=q:=by
 have h1:=(zV hr (k:=p.1) (v:=p.2)).2 hp
 have h2:=(zV hr (k:=p.1) (v:=q.2)).2 (by rw [e]; exact hq)
 rw [h1] at h2
 injection h2 with h2
 exact Prod.ext e h2
theorem XD {L:zX V} {k:List UInt8} {v:V} {x:List UInt8}:x∈zb (yB L k v)↔x=k∨x∈zb L:=by
 unfold zb
 simp only [List.mem_map,yf]
 constructor
 ·
  rintro ⟨p,rfl | ⟨hp,_⟩,rfl⟩
  ·
   exact .inl rfl
  ·
   exact .inr ⟨p,hp,rfl⟩
 ·
  rintro (rfl | ⟨p,hp,rfl⟩)
  ·
   exact ⟨_,.inl rfl,rfl⟩
  ·
   by_cases e:p.1=k
   ·
    exact ⟨(k,v),.inl rfl,e.symm⟩
   ·
    exact ⟨p,.inr ⟨hp,e⟩,rfl⟩
theorem XE {L:zX V} {k x:List UInt8}:x∈zb (vR L k)↔x∈zb L∧x≠k:=by
 unfold zb
 simp only [List.mem_map,xQ]
 constructor
 ·
  rintro ⟨p,⟨hp,hn⟩,rfl⟩; exact ⟨⟨p,hp,rfl⟩,hn⟩
 ·
  rintro ⟨⟨p,hp,rfl⟩,hn⟩; exact ⟨p,⟨hp,hn⟩,rfl⟩
theorem qL {L:zX V} {k x:List UInt8} {v:V}:zE (yB L k v) x=true↔x=k∨zE L x=true:=by
 rw [yo,XD,yo]
theorem jY {L:zX V} {k x:List UInt8}:zE (vR L k) x=true↔zE L x=true∧x≠k:=by
 rw [yo,XE,yo]
theorem UG {W:Type} (f:V→W) (x:List UInt8×V):∀ L:zX V,(YH x L).map (fun p=>(p.1,f p.2))=YH (x.1,f x.2) (L.map fun p=>(p.1,f p.2))
 | []=>rfl
 | y::r=>by
  unfold YH
  simp only [List.map_cons]
  split <;> simp [UG f x r]
theorem UH {W:Type} (f:V→W) (L:zX V) (k:List UInt8):(vR L k).map (fun p=>(p.1,f p.2))=vR (L.map fun p=>(p.1,f p.2)) k:=by
 unfold vR
 rw [List.filter_map]
 rfl
theorem UF {W:Type} (f:V→W) (L:zX V) (k:List UInt8) (v:V):(yB L k v).map (fun p=>(p.1,f p.2))=yB (L.map fun p=>(p.1,f p.2)) k (f v):=by
 unfold yB
 rw [UG,UH]
theorem vM {W:Type} (f:V→W) (L:zX V):zb (L.map fun p=>(p.1,f p.2))=zb L:=by
 unfold zb
 rw [List.map_map]; rfl
theorem map_hasV {W:Type} (f:V→W) (L:zX V) (k:List UInt8):zE (L.map fun p=>(p.1,f p.2)) k=zE L k:=by
 unfold zE
 rw [List.any_map]; rfl
end

/-! ### rows of texts -/
def vl (l:List (List UInt8)):Prop:=l.Pairwise (fun a b=>bytesBefore a b=true)
theorem zB.names {V:Type} {L:zX V} (h:zB L):vl (zb L):=List.pairwise_map.2 h
theorem uh:∀ {a b:List (List UInt8)},vl a→vl b→(∀ x,x∈a↔x∈b)→a=b
 | [],[],_,_,_=>rfl
 | [],y::s,_,_,h=>absurd ((h y).2 (by simp)) (by simp)
 | x::r,[],_,_,h=>absurd ((h x).1 (by simp)) (by simp)
 | x::r,y::s,ha,hb,h=>by
  obtain ⟨a1,a2⟩:=List.pairwise_cons.1 ha
  obtain ⟨b1,b2⟩:=List.pairwise_cons.1 hb
  have e:x=y:=by
   rcases List.mem_cons.1 ((h x).1 (by simp)) with e | hx
   ·
    exact e
   ·
    rcases List.mem_cons.1 ((h y).2 (by simp)) with e | hy
    ·
     exact e.symm
    ·
     exact absurd (b1 _ hx) (by rw [yT (a1 _ hy)]; exact Bool.noConfusion)
  subst e
  rw [uh a2 b2 fun z=>?_]
  constructor
  ·
   intro hz
   rcases List.mem_cons.1 ((h z).1 (by simp [hz])) with e | h'
   ·
    subst e; exact absurd (a1 _ hz) (by rw [zn]; exact Bool.noConfusion)
   ·
    exact h'
  ·
   intro hz
   rcases List.mem_cons.1 ((h z).2 (by simp [hz])) with e | h'
   ·
    subst e; exact absurd (b1 _ hz) (by rw [zn]; exact Bool.noConfusion)
   ·
    exact h'
theorem Xg {ls ss:List (List UInt8)} (hr:vl ls) (hp:ss.Perm ls) (le:List UInt8→List UInt8→Bool) (hle:∀ x y,le x y=!bytesBefore y x):ss.mergeSort le=ls:=by
 have:=ZD (L:=ls.map fun x=>(x,[])) (List.pairwise_map.2 (by exact hr)) (ss:=ss) (by rw [List.map_map]; exact (List.map_id ls).symm ▸ hp) le hle
 rw [this,List.map_map]
 exact List.map_id ls

def insT (s:List UInt8):List (List UInt8)→List (List UInt8)
 | []=>[s]
 | t::r=>if bytesBefore s t then s::t::r else t::insT s r
theorem YI {s x:List UInt8}:∀ {l:List (List UInt8)},x∈insT s l↔x=s∨x∈l
 | []=>by simp [insT]
 | t::r=>by
  unfold insT
  split
  ·
   simp
  ·
   simp only [List.mem_cons,YI (l:=r)]
   constructor
   ·
    rintro (h | h | h)
    ·
     exact .inr (.inl h)
    ·
     exact .inl h
    ·
     exact .inr (.inr h)
   ·
    rintro (h | h | h)
    ·
     exact .inr (.inl h)
    ·
     exact .inl h
    ·
     exact .inr (.inr h)
theorem XP {s:List UInt8}:∀ {l:List (List UInt8)},vl l→s∉l→vl (insT s l)
 | [],_,_=>by simp [insT,vl]
 | t::r,h,hn=>by
  unfold insT
  obtain ⟨h1,h2⟩:=List.pairwise_cons.1 h
  split
  ·
   rename_i hb
   exact List.pairwise_cons.2 ⟨fun p hp=>by
    rcases List.mem_cons.1 hp with rfl | hp
    ·
     exact hb
    ·
     exact WideShapes.bytes_trans _ _ _ hb (h1 p hp),h⟩
  ·
   rename_i hb
   have hts:bytesBefore t s=true:=by
    rcases WideAt.bytes_total t s (fun e=>hn (by simp [e])) with h' | h'
    ·
     exact h'
    ·
     exact absurd h' hb
   exact List.pairwise_cons.2 ⟨fun p hp=>by
    rcases YI.1 hp with rfl | hp
    ·
     exact hts
    ·
     exact h1 p hp,XP h2 (fun hp=>hn (by simp [hp]))⟩
def xN (out:List (List UInt8)) (s:List UInt8):List (List UInt8):=if s∈out then out else insT s out
def VB (l:List (List UInt8)):List (List UInt8):=l.foldl xN []
theorem Yj {o:List (List UInt8)} (h:vl o) (s:List UInt8):vl (xN o s):=by
 unfold xN
 split
 ·
  exact h
 ·
  rename_i hn; exact XP h hn
theorem Xi {o:List (List UInt8)} {s x:List UInt8}:x∈xN o s↔x=s∨x∈o:=by
 unfold xN
 split
 ·
  rename_i h
  constructor
  ·
   exact .inr
  ·
   rintro (rfl | h')
   ·
    exact h
   ·
    exact h'
 ·
  exact YI
theorem Y2:∀ (l o:List (List UInt8)),vl o→vl (l.foldl xN o)
 | [],_,h=>h
 | s::r,_,h=>Y2 r _ (Yj h s)
theorem XZ {x:List UInt8}:∀ (l o:List (List UInt8)),x∈l.foldl xN o↔x∈l∨x∈o
 | [],_=>by simp
 | s::r,o=>by
  show x∈r.foldl xN (xN o s)↔_
  rw [XZ r,Xi]
  simp only [List.mem_cons]
  constructor
  ·
   rintro (h | h | h)
   ·
    exact .inl (.inr h)
   ·
    exact .inl (.inl h)
   ·
    exact .inr h
  ·
   rintro ((h | h) | h)
   ·
    exact .inr (.inl h)
   ·
    exact .inl h
   ·
    exact .inr (.inr h)
theorem Qd (l:List (List UInt8)):vl (VB l):=Y2 l [] List.Pairwise.nil
theorem Xh {l:List (List UInt8)} {x:List UInt8}:x∈VB l↔x∈l:=by
 unfold VB
 rw [XZ]; simp
theorem FJ {l r:List (List UInt8)} (hr:vl r) (h:∀ x,x∈r↔x∈l):VB l=r :=
 uh (Qd l) hr fun x=>by rw [Xh,h]

/-! ### groups,as the code has them -/
abbrev zy:=zX Unit
abbrev zj:=zX zy
def XH (S:zj) (g:List UInt8):zy:=(xV S g).getD []
def uC (S:zj) (g n:List UInt8):Bool:=zE (XH S g) n
def xn (S:zj) (g:List UInt8) (l:List (List UInt8)):Int:=if zf g && l.all zf then (if zE S g then 0 else 8) else 10
def uM (S:zj) (g:List UInt8):Int:=if zf g then (if zE S g then 9 else if 6≤S.length then 7 else 0) else 10
def qj (S:zj) (g:List UInt8):zj:=if uM S g=0 then yB S g [] else S
def drE10 (S:zj) (g:List UInt8):Int:=xn S g []
def drS10 (S:zj) (g:List UInt8):zj:=if drE10 S g=0 then vR S g else S
def qK (S:zj) (g n:List UInt8):Int:=if xn S g [n]=0 then (if uC S g n then 9 else 0) else xn S g [n]
def ql (S:zj) (g n:List UInt8):zj:=if qK S g n=0 then Zb (fun l=>yB l n ()) S g else S
def JB (S:zj) (n:List UInt8):zj:=S.filter fun p=>zE p.2 n
def yX (S:zj) (n:List UInt8):List (List UInt8):=zb (JB S n)
def uK (S:zj) (n:List UInt8):zj:=S.map fun p=>(p.1,vR p.2 n)

structure zH (S:zj) (k:Nat):Prop where
 rise:zB S
 sets:∀ p∈S,zB p.2
 few:S.length≤6
 little:∀ p∈S,p.2.length≤k
 named:∀ p∈S,zf p.1=true
 whos:∀ p∈S,∀ m∈p.2,zf m.1=true
theorem zH.nil:zH [] 0:=⟨List.Pairwise.nil,(fun _ h=>nomatch h),by simp,(fun _ h=>nomatch h),(fun _ h=>nomatch h),(fun _ h=>nomatch h)⟩
theorem zH.mono {S:zj} {k k':Nat} (h:zH S k) (hk:k≤k'):zH S k':=⟨h.rise,h.sets,h.few,fun p hp=>Nat.le_trans (h.little p hp) hk,h.named,h.whos⟩

theorem qI {S:zj} (hr:zB S) {p:List UInt8×zy} (h:p∈S):XH S p.1=p.2:=by
 unfold XH
 rw [(zV hr).2 (show (p.1,p.2)∈S from h)]; rfl
theorem QC {S:zj} {g:List UInt8} (h:zE S g=false):XH S g=[]:=by
 unfold XH
 rw [ul.2 h]; rfl
theorem xy {S:zj} (hr:zB S) {g n:List UInt8}:uC S g n=true↔∃ p∈S,p.1=g∧zE p.2 n=true:=by
 unfold uC
 constructor
 ·
  intro h
  cases hg:zE S g with
  | false=>rw [QC hg] at h; cases h
  | true =>
   obtain ⟨p,hp,rfl⟩:=xf.1 hg
   rw [qI hr hp] at h
   exact ⟨p,hp,rfl,h⟩
 ·
  rintro ⟨p,hp,rfl,h⟩
  rw [qI hr hp]; exact h
theorem uA {S:zj} (hr:zB S) {g n:List UInt8}:g∈yX S n↔uC S g n=true:=by
 rw [xy hr]
 unfold yX JB zb
 simp only [List.mem_map,List.mem_filter]
 constructor
 ·
  rintro ⟨p,⟨hp,h⟩,rfl⟩; exact ⟨p,hp,rfl,h⟩
 ·
  rintro ⟨p,hp,rfl,h⟩; exact ⟨p,⟨hp,h⟩,rfl⟩
theorem uj {S:zj} (hr:zB S) (n:List UInt8):vl (yX S n):=zB.names (hr.filter _)
theorem jX {S:zj} {g n:List UInt8} (h:g∈yX S n):g∈zb S:=by
 unfold yX JB zb at h
 obtain ⟨p,hp,rfl⟩:=List.mem_map.1 h
 exact List.mem_map.2 ⟨p,(List.mem_filter.1 hp).1,rfl⟩
theorem JG (S:zj) (n:List UInt8):(yX S n).length≤S.length:=by
 unfold yX JB zb
 rw [List.length_map]
 exact List.length_filter_le _ _
theorem ym {V:Type} (L:zX V):(zb L).length=L.length:=List.length_map _

theorem XX {S:zj} {k:Nat} (h:zH S k) (g:List UInt8):zH (qj S g) k:=by
 unfold qj
 split
 case isFalse=>exact h
 case isTrue he =>
  unfold uM at he
  split at he
  case isFalse=>cases he
  case isTrue hn =>
  split at he
  ·
   cases he
  ·
   rename_i hh
   have hf:zE S g=false:=by simpa using hh
   split at he
   ·
    cases he
   ·
    rename_i h6
    refine ⟨yJ h.rise g [],fun p hp=>?_,?_,fun p hp=>?_,fun p hp=>?_,fun p hp=>?_⟩
    ·
     rcases yf.1 hp with rfl | ⟨hp,_⟩
     ·
      exact List.Pairwise.nil
     ·
      exact h.sets p hp
    ·
     have:=VK S g []; omega
    ·
     rcases yf.1 hp with rfl | ⟨hp,_⟩
     ·
      simp
     ·
      exact h.little p hp
    ·
     rcases yf.1 hp with rfl | ⟨hp,_⟩
     ·
      exact hn
     ·
      exact h.named p hp
    ·
     rcases yf.1 hp with rfl | ⟨hp,_⟩
     ·
      intro m hm; cases hm
     ·
      exact h.whos p hp
theorem good_upd {S:zj} {k k':Nat} (h:zH S k) (f:zy→zy) (g:List UInt8) (hk:k≤k') (hf:∀ l:zy,zB l→l.length≤k→zB (f l)∧(f l).length≤k') (hw:∀ l:zy,(∀ m∈l,zf m.1=true)→∀ m∈f l,zf m.1=true):zH (Zb f S g) k':=by
 refine ⟨fy h.rise f g,fun p hp=>?_,by rw [Zb,List.length_map]; exact h.few,fun p hp=>?_,fun p hp=>?_,fun p hp=>?_⟩
 all_goals
  obtain ⟨q,hq,rfl⟩:=List.mem_map.1 hp
  have:=hf q.2 (h.sets q hq) (h.little q hq)
  by_cases e:q.1=g
  ·
   simp only [e,if_true]
   first | exact this.1 | exact this.2 | (rw [← e]; exact h.named q hq) | exact hw q.2 (h.whos q hq)
  ·
   simp only [e,if_false]
   first | exact h.sets q hq | exact Nat.le_trans (h.little q hq) hk | exact h.named q hq | exact h.whos q hq
theorem JT {S:zj} {k:Nat} (h:zH S k) (g n:List UInt8):zH (ql S g n) (k+1):=by
 unfold ql
 split
 ·
  rename_i he
  have hn:zf n=true:=by
   unfold qK at he
   split at he
   ·
    rename_i hz
    unfold xn at hz
    split at hz
    ·
     rename_i hb
     simp only [List.all_cons,List.all_nil,Bool.and_true,Bool.and_eq_true] at hb
     exact hb.2
    ·
     cases hz
   ·
    rename_i hz; exact absurd he hz
  exact good_upd h _ g (by omega) (fun l hl hk=>⟨yJ hl n (),by have:=VK l n (); omega⟩) fun l hl m hm=>by
   rcases yf.1 hm with rfl | ⟨hm,_⟩
   ·
    exact hn
   ·
    exact hl m hm
 ·
  exact h.mono (by omega)
theorem good_map {S:zj} {k:Nat} (h:zH S k) (f:zy→zy) (hf:∀ l:zy,zB l→zB (f l)∧(f l).length≤l.length) (hw:∀ l:zy,(∀ m∈l,zf m.1=true)→∀ m∈f l,zf m.1=true):zH (S.map fun p=>(p.1,f p.2)) k:=by
 refine ⟨yQ h.rise (vM f S),fun p hp=>?_,by rw [List.length_map]; exact h.few,fun p hp=>?_,fun p hp=>?_,fun p hp=>?_⟩
 all_goals
  obtain ⟨q,hq,rfl⟩:=List.mem_map.1 hp
  have:=hf q.2 (h.sets q hq)
  first | exact this.1 | exact Nat.le_trans this.2 (h.little q hq) | exact h.named q hq | exact hw q.2 (h.whos q hq)
theorem fR {S:zj} {k:Nat} (h:zH S k) (n:List UInt8):zH (uK S n) k:=good_map h _ (fun l hl=>⟨xc hl n,U7 l n⟩) fun _ hl m hm=>hl m (xQ.1 hm).1

abbrev uu:=List UInt8×List UInt8
def fO (l:List (List UInt8)) (s:List UInt8):Bool:=l.any fun t=>t == s
theorem jZ {l:List (List UInt8)} {s:List UInt8}:fO l s=true↔s∈l:=by simp [fO]
def dropN (N:List (List UInt8)) (g:List UInt8):List (List UInt8):=N.filter fun s=>!(s == g)
def dropM (M:List uu) (g:List UInt8):List uu:=M.filter fun m=>!(m.1 == g)
def outM (M:List uu) (g n:List UInt8):List uu:=M.filter fun m=>!(m.1 == g) || !(m.2 == n)
def ofM (M:List uu) (n:List UInt8):List (List UInt8):=(M.filter fun m=>m.2 == n).map (·.1)
def rmM (M:List uu) (n:List UInt8):List uu:=(VB (ofM M n)).foldl (fun m g=>outM m g n) M

theorem FZ {M:List uu} {g n:List UInt8} {m:uu}:m∈outM M g n↔m∈M∧(m.1=g→m.2≠n):=by
 simp only [outM,List.mem_filter,Bool.or_eq_true,Bool.not_eq_true',beq_eq_false_iff_ne]
 constructor
 ·
  rintro ⟨h,h' | h'⟩
  ·
   exact ⟨h,fun e=>absurd e h'⟩
  ·
   exact ⟨h,fun _=>h'⟩
 ·
  rintro ⟨h,h'⟩
  refine ⟨h,?_⟩
  by_cases e:m.1=g
  ·
   exact .inr (h' e)
  ·
   exact .inl e
theorem Xx {n:List UInt8} {m:uu}:∀ (gs:List (List UInt8)) (M:List uu),m∈gs.foldl (fun m g=>outM m g n) M↔m∈M∧(m.1∈gs→m.2≠n)
 | [],M=>by simp
 | g::r,M=>by
  show m∈r.foldl (fun m g=>outM m g n) (outM M g n)↔_
  rw [Xx r,FZ]
  simp only [List.mem_cons]
  constructor
  ·
   rintro ⟨⟨h,h1⟩,h2⟩
   exact ⟨h,fun e=>e.elim h1 h2⟩
  ·
   rintro ⟨h,h1⟩
   exact ⟨⟨h,fun e=>h1 (.inl e)⟩,fun e=>h1 (.inr e)⟩
theorem ofM_mem {M:List uu} {g n:List UInt8}:g∈ofM M n↔(g,n)∈M:=by
 simp only [ofM,List.mem_map,List.mem_filter,beq_iff_eq]
 constructor
 ·
  rintro ⟨m,⟨hm,rfl⟩,rfl⟩; exact hm
 ·
  intro h; exact ⟨_,⟨h,rfl⟩,rfl⟩
theorem Jt {M:List uu} {n:List UInt8} {m:uu}:m∈rmM M n↔m∈M∧m.2≠n:=by
 unfold rmM
 rw [Xx,Xh,ofM_mem]
 constructor
 ·
  rintro ⟨h,h1⟩
  refine ⟨h,fun e=>?_⟩
  exact h1 (by rw [← e]; exact h) e
 ·
  rintro ⟨h,h1⟩; exact ⟨h,fun _=>h1⟩

structure vU (S:zj) (N:List (List UInt8)) (M:List uu):Prop where
 names:N=zb S
 mem:∀ g n,(g,n)∈M↔uC S g n=true

section
variable {S:zj} {N:List (List UInt8)} {M:List uu} {k:Nat}
theorem vU.nil:vU [] [] []:=⟨rfl,fun _ _=>by simp [uC,XH,xV,zE]⟩
theorem vU.has (h:vU S N M) (g:List UInt8):fO N g=zE S g:=by
 rw [Bool.eq_iff_iff,jZ,yo,h.names]
theorem vU.len (h:vU S N M):N.length=S.length:=by rw [h.names,ym]

theorem UL (hr:zB S) {g:List UInt8} (hh:zE S g=false) (g' n:List UInt8):uC (yB S g []) g' n=uC S g' n:=by
 rw [Bool.eq_iff_iff,xy (yJ hr g []),xy hr]
 constructor
 ·
  rintro ⟨p,hp,rfl,h⟩
  rcases yf.1 hp with rfl | ⟨hp,_⟩
  ·
   cases h
  ·
   exact ⟨p,hp,rfl,h⟩
 ·
  rintro ⟨p,hp,rfl,h⟩
  exact ⟨p,yf.2 (.inr ⟨hp,fun e=>by rw [uD] at hh; exact hh (by rw [← e]; exact List.mem_map.2 ⟨p,hp,rfl⟩)⟩),rfl,h⟩
theorem in10_del (hr:zB S) (g g' n:List UInt8):uC (vR S g) g' n=true↔uC S g' n=true∧g'≠g:=by
 rw [xy (xc hr g),xy hr]
 constructor
 ·
  rintro ⟨p,hp,rfl,h⟩
  obtain ⟨h1,h2⟩:=xQ.1 hp
  exact ⟨⟨p,h1,rfl,h⟩,h2⟩
 ·
  rintro ⟨⟨p,hp,rfl,h⟩,h2⟩
  exact ⟨p,xQ.2 ⟨hp,h2⟩,rfl,h⟩
theorem in10_upd (hr:zB S) (f:zy→zy) (g g' n:List UInt8):uC (Zb f S g) g' n=true↔∃ p∈S,p.1=g'∧zE (if g'=g then f p.2 else p.2) n=true:=by
 rw [xy (fy hr f g)]
 constructor
 ·
  rintro ⟨q,hq,rfl,h⟩
  obtain ⟨p,hp,rfl⟩:=List.mem_map.1 hq
  refine ⟨p,hp,?_⟩
  by_cases e:p.1=g
  ·
   simp only [e,if_true] at h ⊢; exact ⟨trivial,h⟩
  ·
   simp only [e,if_false] at h ⊢; exact ⟨trivial,h⟩
 ·
  rintro ⟨p,hp,rfl,h⟩
  refine ⟨_,List.mem_map.2 ⟨p,hp,rfl⟩,?_⟩
  by_cases e:p.1=g
  ·
   simp only [e,if_true] at h ⊢; exact ⟨trivial,h⟩
  ·
   simp only [e,if_false] at h ⊢; exact ⟨trivial,h⟩
theorem UM (hr:zB S) (f:zy→zy) (g n:List UInt8):uC (S.map fun p=>(p.1,f p.2)) g n=true↔∃ p∈S,p.1=g∧zE (f p.2) n=true:=by
 rw [xy (yQ hr (vM f S))]
 constructor
 ·
  rintro ⟨q,hq,rfl,h⟩
  obtain ⟨p,hp,rfl⟩:=List.mem_map.1 hq
  exact ⟨p,hp,rfl,h⟩
 ·
  rintro ⟨p,hp,rfl,h⟩
  exact ⟨_,List.mem_map.2 ⟨p,hp,rfl⟩,rfl,h⟩

theorem ZU {g:List UInt8} (h:uM S g=0):zf g=true∧zE S g=false∧S.length<6:=by
 unfold uM at h
 split at h
 case isFalse=>cases h
 case isTrue hn =>
 split at h
 ·
  cases h
 ·
  rename_i hh
  split at h
  ·
   cases h
  ·
   exact ⟨hn,by simpa using hh,by omega⟩
theorem jG {g:List UInt8} {l:List (List UInt8)} (h:xn S g l=0):zf g=true∧l.all zf=true∧zE S g=true:=by
 unfold xn at h
 split at h
 case isFalse=>cases h
 case isTrue hn =>
 split at h
 ·
  rename_i hh
  simp only [Bool.and_eq_true] at hn
  exact ⟨hn.1,hn.2,hh⟩
 ·
  cases h
theorem QH {g n:List UInt8} (h:qK S g n=0):xn S g [n]=0∧uC S g n=false:=by
 unfold qK at h
 split at h
 case isFalse hf=>exact absurd h hf
 case isTrue hf =>
 split at h
 ·
  cases h
 ·
  rename_i hi; exact ⟨hf,by simpa using hi⟩

theorem vU.make (h:vU S N M) (hg:zH S k) {g:List UInt8} (he:uM S g=0):vU (qj S g) (VB (N++[g])) M:=by
 obtain ⟨hn,hh,h6⟩:=ZU he
 unfold qj
 rw [if_pos he]
 refine ⟨FJ (yJ hg.rise g []).names fun x=>?_,fun g' n=>by rw [h.mem,UL hg.rise hh]⟩
 rw [XD,h.names]
 simp [or_comm]
theorem vU.drop (h:vU S N M) (hg:zH S k) {g:List UInt8} (he:drE10 S g=0):vU (drS10 S g) (dropN N g) (dropM M g):=by
 unfold drS10
 rw [if_pos he]
 refine ⟨uh ?_ (xc hg.rise g).names fun x=>?_,fun g' n=>?_⟩
 ·
  rw [h.names]; exact hg.rise.names.filter _
 ·
  rw [XE,h.names]; simp [dropN]
 ·
  rw [in10_del hg.rise,← h.mem]
  simp [dropM]
theorem vU.join (h:vU S N M) (hg:zH S k) {g n:List UInt8} (he:qK S g n=0):vU (ql S g n) N (M++[(g,n)]):=by
 obtain ⟨hf,hi⟩:=QH he
 obtain ⟨_,_,hh⟩:=jG hf
 unfold ql
 rw [if_pos he]
 refine ⟨by rw [h.names,qZ],fun g' n'=>?_⟩
 rw [in10_upd hg.rise,List.mem_append,h.mem,xy hg.rise,List.mem_singleton]
 constructor
 ·
  rintro (⟨p,hp,rfl,h'⟩ | e)
  ·
   refine ⟨p,hp,rfl,?_⟩
   split
   ·
    exact qL.2 (.inr h')
   ·
    exact h'
  ·
   injection e with e1 e2
   subst e1 e2
   obtain ⟨p,hp,e⟩:=xf.1 hh
   exact ⟨p,hp,e,by simp [qL]⟩
 ·
  rintro ⟨p,hp,rfl,h'⟩
  by_cases e:p.1=g
  ·
   rw [if_pos e] at h'
   rcases qL.1 h' with h' | h'
   ·
    right; rw [e,h']
   ·
    exact .inl ⟨p,hp,rfl,h'⟩
  ·
   rw [if_neg e] at h'
   exact .inl ⟨p,hp,rfl,h'⟩
theorem vU.remove (h:vU S N M) (hg:zH S k) (n:List UInt8):vU (uK S n) N (rmM M n):=by
 refine ⟨by rw [h.names]; exact (vM _ S).symm,fun g' n'=>?_⟩
 unfold uK
 rw [UM hg.rise (fun l=>vR l n),Jt,h.mem,xy hg.rise]
 constructor
 ·
  rintro ⟨⟨p,hp,rfl,h'⟩,h2⟩; exact ⟨p,hp,rfl,jY.2 ⟨h',h2⟩⟩
 ·
  rintro ⟨p,hp,rfl,h'⟩
  have:=jY.1 h'
  exact ⟨⟨p,hp,rfl,this.1⟩,this.2⟩

/-! ### what the laws ask -/
theorem Ju (hr:zB S) (n:List UInt8):yX (uK S n) n=[]:=by
 refine List.eq_nil_iff_forall_not_mem.2 fun g hm=>?_
 unfold uK at hm
 rw [uA (yQ hr (vM (fun l:zy=>vR l n) S)),UM hr (fun l=>vR l n)] at hm
 obtain ⟨p,hp,_,h⟩:=hm
 exact (jY.1 h).2 rfl
theorem VX (g n:List UInt8):zb (ql S g n)=zb S:=by
 unfold ql
 split
 ·
  exact qZ _ S g
 ·
  rfl
end
end Go.Proofs.YthmomkjingcbiaaGreatDoor
namespace Go.Proofs.YthmomkjingcbiaaGreatDoor
open Go.RowKit Go.Maps

theorem vh {H:Type} {w:World} {P:Program} {k:TypeId} {R:Value→Option (DataW H×List MemPlace)} {b n:Nat} {D:DataW H} (h:w.ownsMap P k R b n D):w.ownsMap P k R b (Maps.size D) D:=by
 obtain ⟨es,clock,hb,F,_,rfl⟩:=h
 have e1:Maps.size (DataW.map ((es.toList.map (WideElems.rg P k R)).foldr DataW.insert []))=es.size:=by simp [Maps.size,length_sorted]
 exact ⟨es,clock,hb,F,by rw [e1]; exact Nat.le_refl _,rfl⟩
theorem xe:Keyed Tryz.prog 9:=string_keyed Tryz.underlying9
theorem jP (s:ByteArray) (h:s.size≤maxLen):keyOf Tryz.prog 9 (.string s)=some (.string s.data.toList):=WideMaps.keyOf_string_mk Tryz.underlying9 h
theorem zerob10 (w:World):(zeroValue 4).run Tryz.prog w=.ok (.bool false) w:=by kernel_rfl
theorem Yc (w:World):(zeroValue 208).run Tryz.prog w=.ok (.map none) w:=by kernel_rfl
def zY (l:List UInt8):ByteArray:=⟨l.toArray⟩
theorem zU (l:List UInt8):(zY l).data.toList=l:=by simp [zY]
theorem ue (s:ByteArray):zY s.data.toList=s:=by simp [zY]
theorem ud (l:List UInt8):(zY l).size=l.length:=by rw [← zi,zU]

/-! ### a set of names -/
def et10:Unit→DataW Unit:=fun _=>.lit (.bool true)
def zG (w:World) (b:Nat) (L:zy):Prop:=w.ownsMap Tryz.prog 9 (plainElem Tryz.prog 4) b L.length (vp et10 L)
theorem zG.of {w:World} {b n:Nat} {L:zy} (h:w.ownsMap Tryz.prog 9 (plainElem Tryz.prog 4) b n (vp et10 L)):zG w b L:=by
 have:=vh h
 rwa [vk] at this
theorem zG.kept {w w':World} {b:Nat} {L:zy} (h:zG w b L) (hb:w'.heap[b]? = w.heap[b]?):zG w' b L:=by
 obtain ⟨es,clock,h1,r⟩:=h
 exact ⟨es,clock,hb.trans h1,r⟩
theorem Xv {v:Value} {z:DataW Unit×List MemPlace} (h:plainElem Tryz.prog 4 v=some z):∃ c,v=.bool c∧z=(.lit (.bool c),[]):=by
 cases v <;> simp [plainElem,Tryz.underlying4] at h
 exact ⟨_,rfl,h.symm⟩
theorem X4 {V:Type} {e:V→DataW Unit} {L:zX V} {k:List UInt8} (z:DataW Unit) (h:xV L k=none):(vp e L).atKey (.string k) z=z:=by
 rw [Fa,h]
theorem fd {V:Type} {e:V→DataW Unit} {L:zX V} {k:List UInt8} {v:V} (z:DataW Unit) (h:xV L k=some v):(vp e L).atKey (.string k) z=e v:=by
 rw [Fa,h]
theorem Fm (L:zy) (k:List UInt8):(vp et10 L).atKey (.string k) (.lit (.bool false))=.lit (.bool (zE L k)):=by
 cases h:xV L k with
 | none=>rw [X4 _ h,ul.1 h]
 | some v =>
  have:zE L k=true:=by
   cases hh:zE L k
   ·
    rw [ul.2 hh] at h; cases h
   ·
    rfl
  rw [fd _ h,this]; rfl
theorem has10 {w:World} {b:Nat} {L:zy} (h:zG w b L) (s:ByteArray) (hs:s.size≤maxLen) :
  (Instr.lookup 208 (.map (some b)) (.string s) false).run Tryz.prog w=.ok (.bool (zE L s.data.toList)) w:=by
 obtain ⟨v,ps,hrun,hv⟩:=h.lookup xe Tryz.underlying208 (zerob10 w) (plainElem_bool (H:=Unit) Tryz.underlying4 false) (jP s hs)
 obtain ⟨c,rfl,hc⟩:=Xv hv
 rw [hrun]
 have hc':(vp et10 L).atKey (.string s.data.toList) (.lit (.bool false))=.lit (.bool c):=congrArg Prod.fst hc
 rw [Fm] at hc'
 have:zE L s.data.toList=c:=by simpa using hc'
 rw [this]
theorem drop10 {w:World} {b:Nat} {L:zy} (h:zG w b L) (s:ByteArray) (hs:s.size≤maxLen) (ty:TypeId) :
  ∃ w',(Builtin.delete_ #[208,9] ty #[.map (some b),.string s]).run Tryz.prog w=.ok (.tuple #[]) w'∧zG w' b (vR L s.data.toList)∧w.mapTurned w' b:=by
 obtain ⟨w',hrun,hown,ht⟩:=h.drop xe Tryz.underlying208 (jP s hs) ty
 rw [US] at hown
 exact ⟨w',hrun,zG.of hown,ht⟩
theorem add10 {w:World} {b:Nat} {L:zy} (h:zG w b L) (hf:L.length≤1000) (s:ByteArray) (hs:s.size≤maxLen) :
  ∃ w',(Instr.mapUpdate 208 (.map (some b)) (.string s) (.bool true)).run Tryz.prog w=.ok () w'∧zG w' b (yB L s.data.toList ())∧w.mapTurned w' b:=by
 obtain ⟨w',hrun,hown,ht⟩:=h.store xe Tryz.underlying208 (Nat.lt_of_le_of_lt hf (by decide)) (jP s hs) (plainElem_bool (H:=Unit) Tryz.underlying4 true)
 have e:vp et10 (yB L s.data.toList ())=(vp et10 L).put (.string s.data.toList) (et10 ()):=(YW et10 L _ ()).symm
 exact ⟨w',hrun,zG.of (by rw [e]; exact hown),ht⟩
theorem Qh (w:World):zG (w.alloc (.map #[] 0)) w.heap.size [] :=
 zG.of (n:=0) (World.ownsMap_made (H:=Unit) w Tryz.prog 9 (plainElem Tryz.prog 4))

/-! ### groups -/
abbrev zp:=zX (Nat×zy)
def R10:Value→Option (DataW Unit×List MemPlace)
 | .map (some b)=>some (.lit (.int .i64 b),[])
 | .map none=>some (.nil,[])
 | _=>none
def Vr:Nat×zy→DataW Unit:=fun p=>.lit (.int .i64 p.1)
def zh (T:zp):zj:=T.map fun p=>(p.1,p.2.2)
def qw (T:zp) (g:List UInt8):Option Nat:=(xV T g).map (·.1)
def ob10:Option Nat→DataW Unit
 | some b=>.lit (.int .i64 b)
 | none=>.nil
theorem Yx {o o':Option Nat} (h:ob10 o=ob10 o'):o=o':=by
 cases o with
 | none=>cases o' with
  | none=>rfl
  | some b=>cases h
 | some a=>cases o' with
  | none=>cases h
  | some b =>
   unfold ob10 at h
   injection h with h
   injection h with _ h
   rw [Int.ofNat.inj h]
theorem Q1 (T:zp) (k:List UInt8):(vp Vr T).atKey (.string k) .nil=ob10 (qw T k):=by
 unfold qw
 cases h:xV T k with
 | none=>rw [X4 _ h]; rfl
 | some v=>rw [fd _ h]; rfl
theorem Yr {v:Value} {z:DataW Unit×List MemPlace} (h:R10 v=some z):∃ o,v=.map o∧z.1=ob10 o:=by
 unfold R10 at h
 split at h
 ·
  cases h; exact ⟨_,rfl,rfl⟩
 ·
  cases h; exact ⟨_,rfl,rfl⟩
 ·
  cases h

structure zF (w:World) (B:Nat) (p:Option Nat) (T:zp):Prop where
 blk:w.heap[B]? = some (.cells #[.map p] 167 (0,0))
 nil:p=none→T=[]
 map:∀ b,p=some b→w.ownsMap Tryz.prog 9 R10 b T.length (vp Vr T)
 sets:∀ x∈T,zG w x.2.1 x.2.2
 one:∀ x∈T,∀ y∈T,x.2.1=y.2.1→x.1=y.1
 off:∀ x∈T,p≠some x.2.1
 rise:zB T

theorem zO {w:World} {b B n:Nat} {R:Value→Option (DataW Unit×List MemPlace)} {D:DataW Unit} {c:Array Value} {T:TypeId} {fr:Nat×Nat} (hm:w.ownsMap Tryz.prog 9 R b n D) (hB:w.heap[B]? = some (.cells c T fr)):b≠B:=fun e=>by
 obtain ⟨es,clock,h1,_⟩:=hm
 subst e
 rw [hB] at h1
 cases h1
section
variable {w w':World} {B:Nat} {p:Option Nat} {T:zp}
theorem zF.lt (h:zF w B p T):B<w.heap.size:=(Array.getElem?_eq_some_iff.1 h.blk).1
theorem zF.mlt (h:zF w B p T):∀ b,p=some b→b<w.heap.size:=fun b hb=>(h.map b hb).lt
theorem zF.slt (h:zF w B p T):∀ x∈T,x.2.1<w.heap.size:=fun x hx=>World.ownsMap.lt (h.sets x hx)
theorem zF.cell (h:zF w B p T):w.cell? ⟨B,0,none⟩=some (.map p):=by simp [World.cell?,h.blk]
theorem zF.frozen (h:zF w B p T):w.frozen? ⟨B,0,none⟩=false:=by simp [World.frozen?,h.blk]
theorem zF.mne (h:zF w B p T):∀ b,p=some b→b≠B:=fun b hb=>zO (h.map b hb) h.blk
theorem zF.sne (h:zF w B p T):∀ x∈T,x.2.1≠B:=fun x hx=>zO (h.sets x hx) h.blk
theorem zF.turns {S:Nat→Prop} (h:zF w B p T) (ht:zc S w w') (hB:¬ S B) (hp:∀ b,p=some b→¬ S b) (hs:∀ x∈T,¬ S x.2.1):zF w' B p T:=by
 refine ⟨(ht.block B h.lt hB).trans h.blk,h.nil,fun b hb=>?_,fun x hx=>(h.sets x hx).kept (ht.block _ (h.slt x hx) (hs x hx)),h.one,h.off,h.rise⟩
 obtain ⟨es,clock,h1,r⟩:=h.map b hb
 exact ⟨es,clock,(ht.block b (h.mlt b hb) (hp b hb)).trans h1,r⟩
theorem zF.later (h:zF w B p T) (hb:Below w.heap.size w w'):zF w' B p T:=h.turns (zc.of_below hb (fun _=>False)) (fun f=>f) (fun _ _ f=>f) (fun _ _ f=>f)

theorem look10 (h:zF w B p T) (s:ByteArray) (hs:s.size≤maxLen) :
  (Instr.lookup 165 (.map p) (.string s) true).run Tryz.prog w=.ok (.tuple #[.map (qw T s.data.toList),.bool (zE T s.data.toList)]) w:=by
 cases p with
 | none =>
  have hL:=h.nil rfl
  subst hL
  exact Maps.look_nil (P:=Tryz.prog) (w:=w) (t:=165) true xe Tryz.underlying165 (Yc w) (jP s hs)
 | some b =>
  obtain ⟨v,ps,hrun,hv⟩:=(h.map b rfl).look_ok xe Tryz.underlying165 (Yc w) (show R10 (.map none)=some (.nil,[]) from rfl) (jP s hs)
  obtain ⟨o,rfl,ho⟩:=Yr hv
  rw [hrun,fc]
  have ho':(vp Vr T).atKey (.string s.data.toList) .nil=ob10 o:=ho
  rw [Q1] at ho'
  rw [Yx ho']
theorem look101 (h:zF w B p T) (s:ByteArray) (hs:s.size≤maxLen) :
  (Instr.lookup 165 (.map p) (.string s) false).run Tryz.prog w=.ok (.map (qw T s.data.toList)) w:=by
 cases p with
 | none =>
  have hL:=h.nil rfl
  subst hL
  exact Maps.look_nil (P:=Tryz.prog) (w:=w) (t:=165) false xe Tryz.underlying165 (Yc w) (jP s hs)
 | some b =>
  obtain ⟨v,ps,hrun,hv⟩:=(h.map b rfl).lookup xe Tryz.underlying165 (Yc w) (show R10 (.map none)=some (.nil,[]) from rfl) (jP s hs)
  obtain ⟨o,rfl,ho⟩:=Yr hv
  rw [hrun]
  have ho':(vp Vr T).atKey (.string s.data.toList) .nil=ob10 o:=ho
  rw [Q1] at ho'
  rw [Yx ho']
theorem len10 (h:zF w B p T) (ty:TypeId):(Builtin.len_ #[165] ty #[.map p]).run Tryz.prog w=.ok (.int .i64 T.length) w:=by
 cases p with
 | none =>
  have hL:=h.nil rfl
  subst hL
  exact Maps.len_nil Tryz.underlying165 ty
 | some b =>
  have:=(h.map b rfl).len (t:=165) Tryz.underlying165 ty
  rwa [vk] at this
theorem UD (w:World) (p:Option Nat):(binOp .eql 165 (.map p) (.map none)).run Tryz.prog w=.ok (.bool p.isNone) w :=
 run_eql_map_nil_sl w 165 _ _ p Tryz.underlying165
end

theorem qg (T:zp) (k:List UInt8):zE (zh T) k=zE T k:=map_hasV (fun v:Nat×zy=>v.2) T k
theorem xP (T:zp):zb (zh T)=zb T:=vM (fun v:Nat×zy=>v.2) T
theorem qf (T:zp):(zh T).length=T.length:=List.length_map _
theorem VN (T:zp) (k:List UInt8) (v:Nat×zy):zh (yB T k v)=yB (zh T) k v.2:=UF (fun v:Nat×zy=>v.2) T k v
theorem VM (f:zy→zy) (T:zp) (k:List UInt8):zh (Zb (fun v=>(v.1,f v.2)) T k)=Zb f (zh T) k:=by
 unfold zh Zb
 rw [List.map_map,List.map_map]
 refine List.map_congr_left fun x _=>?_
 show (let y:=if x.1=k then (x.1,(x.2.1,f x.2.2)) else x; (y.1,y.2.2))=if x.1=k then (x.1,f x.2.2) else (x.1,x.2.2)
 by_cases e:x.1=k
 ·
  rw [if_pos e,if_pos e]
 ·
  rw [if_neg e,if_neg e]
theorem VO {T:zp} (hr:zB T) {x:List UInt8×(Nat×zy)} (hx:x∈T):XH (zh T) x.1=x.2.2:=by
 have h1:zB (zh T):=yQ hr (xP T)
 have h2:(x.1,x.2.2)∈zh T:=List.mem_map.2 ⟨x,hx,rfl⟩
 exact qI h1 h2
theorem Y7 {T:zp} (hr:zB T) {x:List UInt8×(Nat×zy)} (hx:x∈T):qw T x.1=some x.2.1:=by
 unfold qw
 rw [(zV hr).2 (show (x.1,x.2)∈T from hx)]; rfl
theorem J3 {T:zp} {k:List UInt8} (h:zE T k=false):qw T k=none:=by
 unfold qw
 rw [ul.2 h]; rfl
theorem qA {V:Type} {f:V→V} {L:zX V} {k:List UInt8} {p:List UInt8×V} (h:p∈Zb f L k):∃ q∈L,p=(q.1,if q.1=k then f q.2 else q.2):=by
 obtain ⟨q,hq,rfl⟩:=List.mem_map.1 h
 refine ⟨q,hq,?_⟩
 by_cases e:q.1=k
 ·
  rw [if_pos e,if_pos e]
 ·
  rw [if_neg e,if_neg e]
theorem zF.turned {w w':World} {B:Nat} {p:Option Nat} {T:zp} (h:zF w B p T) {x:List UInt8×(Nat×zy)} (hx:x∈T) (f:zy→zy) (hs:zG w' x.2.1 (f x.2.2)) (ht:zc (fun i=>i=x.2.1) w w'):zF w' B p (Zb (fun v=>(v.1,f v.2)) T x.1):=by
 have hbb:∀ q∈T,(if q.1=x.1 then (q.2.1,f q.2.2) else q.2).1=q.2.1:=fun q _=>by split <;> rfl
 refine ⟨(ht.block B h.lt (fun e=>h.sne x hx e.symm)).trans h.blk,fun e=>?_,fun b hb=>?_,fun y hy=>?_,fun y hy z hz e=>?_,fun y hy=>?_,fy h.rise _ _⟩
 ·
  rw [h.nil e] at hx; cases hx
 ·
  have e1:vp Vr (Zb (fun v=>(v.1,f v.2)) T x.1)=vp Vr T:=datV_upd (e:=Vr) (f:=fun v=>(v.1,f v.2)) (fun _=>rfl) T x.1
  rw [e1,show (Zb (fun v:Nat×zy=>(v.1,f v.2)) T x.1).length=T.length from List.length_map _]
  obtain ⟨es,clock,h1,r⟩:=h.map b hb
  exact ⟨es,clock,(ht.block b (h.mlt b hb) (fun e=>h.off x hx (by rw [hb,e]))).trans h1,r⟩
 ·
  obtain ⟨q,hq,rfl⟩:=qA hy
  by_cases e:q.1=x.1
  ·
   have:=Xp h.rise hq hx e
   subst this
   simp only [if_true]
   exact hs
  ·
   simp only [e,if_false]
   exact (h.sets q hq).kept (ht.block _ (h.slt q hq) (fun e'=>e (h.one q hq x hx e')))
 ·
  obtain ⟨q,hq,rfl⟩:=qA hy
  obtain ⟨r,hr,rfl⟩:=qA hz
  simp only [hbb q hq,hbb r hr] at e
  exact h.one q hq r hr e
 ·
  obtain ⟨q,hq,rfl⟩:=qA hy
  simp only [hbb q hq]
  exact h.off q hq

def Turn10 (B:Nat) (p:Option Nat) (T:zp) (w w':World):Prop:=zc (fun i=>i=B∨p=some i∨∃ x∈T,x.2.1=i) w w'
def yh (w:World) (B:Nat) (p:Option Nat) (T:zp) (S':zj) (w':World):Prop :=
 ∃ p' T',zF w' B p' T'∧zh T'=S'∧(∀ b,p'=some b→p=some b∨w.heap.size≤b)∧(∀ x∈T',(∃ y∈T,y.2.1=x.2.1)∨w.heap.size≤x.2.1)∧Turn10 B p T w w'
theorem yh.still {w w':World} {B:Nat} {p:Option Nat} {T:zp} (h:zF w B p T) (hb:Below w.heap.size w w'):yh w B p T (zh T) w' :=
 ⟨p,T,h.later hb,rfl,fun _ e=>.inl e,fun x hx=>.inl ⟨x,hx,rfl⟩,zc.of_below hb _⟩
theorem yh.ahead {w w1 w':World} {B:Nat} {p:Option Nat} {T:zp} {S':zj} (hb:Below w.heap.size w w1) (h:yh w1 B p T S' w'):yh w B p T S' w':=by
 obtain ⟨p',T',hd,hS,hp,hx,ht⟩:=h
 exact ⟨p',T',hd,hS,fun b e=>(hp b e).imp id (fun h=>Nat.le_trans hb.size h),fun x hh=>(hx x hh).imp id (fun h=>Nat.le_trans hb.size h),(zc.of_below hb _).next ht (fun i _ h=>h)⟩

set_option maxRecDepth 100000 in
theorem Z5 (s:ByteArray) (w:World) (hs:s.size≤9223372036854775807) :
  Calls Tryz.prog 242 #[.string s] w (zQ (!zf s.data.toList) w):=by
 have HN:=za (yE s w hs)
 cases hb:zf s.data.toList with
 | false =>
  rw [hb] at HN
  have HN2:Hid (Calls Tryz.prog 52 #[.string s] w (zP 10 w)):=HN.out
  clear HN hb
  go_enter Tryz.func242,Tryz.ntmps242
  go_wp2_with fail
  with_reducible refine HN2.out.mono ?_
  rintro e w1 ⟨rfl,hb⟩
  have HB:=za hb
  clear hb HN2
  go_wp2
  go_ret
  exact ⟨rfl,HB.out⟩
 | true =>
  rw [hb] at HN
  have HN2:Hid (Calls Tryz.prog 52 #[.string s] w (zP 0 w)):=HN.out
  clear HN hb
  go_enter Tryz.func242,Tryz.ntmps242
  go_wp2_with fail
  with_reducible refine HN2.out.mono ?_
  rintro e w1 ⟨rfl,hb⟩
  have HB:=za hb
  clear hb HN2
  go_wp2
  go_ret
  exact ⟨rfl,HB.out⟩

set_option maxRecDepth 100000 in
theorem VY (g:Nat) (B:Nat) (s:ByteArray) (b:Bool) (w:World) (eg:∀ args w,(callFunc g args).run Tryz.prog w=.ok (.enter g args) w) (hc:w.cell? ⟨B,0,none⟩=some (.string s)) (hp:Calls Tryz.prog g #[.string s] w (zQ b w)) :
  Calls Tryz.prog 135 #[.slice (some ⟨B,0,none⟩) 1 1,.func (.func g) #[] #[]] w fun e w'=>e=.returned (.int .i64 (if b then 0 else -1))∧Below w.heap.size w w':=by
 have HP:=za hp
 clear hp
 cases b with
 | true =>
  go_enter Tryz.func135,Tryz.ntmps135
  go_wp2
  refine wp_loop_rounds 1 ?_
  rw [rounds_succ]
  go_wp2_with (go_at_fn g; (with_reducible refine HP.out.mono ?_); rintro e w1 ⟨rfl,hb⟩; have HB:=za hb; clear hb)
  go_ret
  exact ⟨rfl,HB.out⟩
 | false =>
  go_enter Tryz.func135,Tryz.ntmps135
  go_wp2
  refine wp_loop_rounds 2 ?_
  rw [rounds_succ]
  go_wp2_with (go_at_fn g; (with_reducible refine HP.out.mono ?_); rintro e w1 ⟨rfl,hb⟩; have HB:=za hb; clear hb)
  rw [rounds_succ]
  go_wp2
  go_ret
  exact ⟨rfl,HB.out⟩
set_option maxRecDepth 100000 in
theorem Zt (g:Nat) (B:Nat) (s:ByteArray) (b:Bool) (w:World) (eg:∀ args w,(callFunc g args).run Tryz.prog w=.ok (.enter g args) w) (hc:w.cell? ⟨B,0,none⟩=some (.string s)) (hp:Calls Tryz.prog g #[.string s] w (zQ b w)) :
  Calls Tryz.prog 241 #[.slice (some ⟨B,0,none⟩) 1 1,.func (.func g) #[] #[]] w (zQ b w):=by
 have HP:=za (VY g B s b w eg hc hp)
 clear hp hc
 cases b with
 | true =>
  go_enter Tryz.func241,Tryz.ntmps241
  go_wp2_with fail
  with_reducible refine HP.out.mono ?_
  rintro e w1 ⟨rfl,hb⟩
  have HB:=za hb
  clear hb HP
  go_wp2
  go_ret
  exact ⟨rfl,HB.out⟩
 | false =>
  go_enter Tryz.func241,Tryz.ntmps241
  go_wp2_with fail
  with_reducible refine HP.out.mono ?_
  rintro e w1 ⟨rfl,hb⟩
  have HB:=za hb
  clear hb HP
  go_wp2
  go_ret
  exact ⟨rfl,HB.out⟩
set_option maxRecDepth 100000 in
theorem uq (B:Nat) (s:ByteArray) (w:World) (hs:s.size≤9223372036854775807) (hc:w.cell? ⟨B,0,none⟩=some (.string s)):Calls Tryz.prog 200 #[.slice (some ⟨B,0,none⟩) 1 1] w (zQ (zf s.data.toList) w):=by
 have HP:=za (Zt _ B s _ w (enters_of Tryz.func242 (by kernel_rfl) rfl) hc (Z5 s w hs))
 clear hc
 generalize zf s.data.toList=b at *
 cases b with
 | true =>
  go_enter Tryz.func200,Tryz.ntmps200
  go_wp2_with fail
  with_reducible refine HP.out.mono ?_
  rintro e w1 ⟨rfl,hb⟩
  have HB:=za hb
  clear hb HP
  go_wp2
  go_ret
  exact ⟨rfl,HB.out⟩
 | false =>
  go_enter Tryz.func200,Tryz.ntmps200
  go_wp2_with fail
  with_reducible refine HP.out.mono ?_
  rintro e w1 ⟨rfl,hb⟩
  have HB:=za hb
  clear hb HP
  go_wp2
  go_ret
  exact ⟨rfl,HB.out⟩

/-! ### has -/
set_option maxRecDepth 100000 in
theorem VZ (s:ByteArray) (w:World):Calls Tryz.prog 208 #[.string s] w fun e w'=>e=.returned (.func (.func 247) #[] #[.pointer (some ⟨w.heap.size,0,none⟩)])∧w'=w.alloc (.cells #[.string s] 9):=by
 have hmf:=mkf
 go_enter Tryz.func208,Tryz.ntmps208
 go_wp2
 go_ret
 exact ⟨rfl,rfl⟩
set_option maxRecDepth 100000 in
theorem QL (C b:Nat) (L:zy) (s:ByteArray) (w:World) (hs:s.size≤maxLen) (hc:w.cell? ⟨C,0,none⟩=some (.string s)) (h:zG w b L):Calls Tryz.prog 247 #[.map (some b),.pointer (some ⟨C,0,none⟩)] w fun e w'=>e=.returned (.bool (zE L s.data.toList))∧w'=w:=by
 have hl:=has10 h s hs
 generalize zE L s.data.toList=r at *
 clear h
 go_enter Tryz.func247,Tryz.ntmps247
 go_wp2
 go_ret
 exact ⟨rfl,rfl⟩

/-! ### every -/
set_option maxRecDepth 100000 in
theorem YK (fv:Value) (w:World):Calls Tryz.prog 276 #[.slice none 0 0,fv] w fun e w'=>e=.returned (.int .i64 (-1))∧w'=w:=by
 go_enter Tryz.func276,Tryz.ntmps276
 go_wp2
 refine wp_loop_rounds 1 ?_
 rw [rounds_succ]
 go_wp2
 go_ret
 exact ⟨rfl,rfl⟩
set_option maxRecDepth 100000 in
theorem XS (g:Nat) (B C:Nat) (f:Value) (b:Bool) (w:World) (eg:∀ args w,(callFunc g args).run Tryz.prog w=.ok (.enter g args) w) (hc:w.cell? ⟨B,0,none⟩=some f) (hp:Calls Tryz.prog g #[f,.pointer (some ⟨C,0,none⟩)] w (zQ b w)) :
  Calls Tryz.prog 276 #[.slice (some ⟨B,0,none⟩) 1 1,.func (.func g) #[] #[.pointer (some ⟨C,0,none⟩)]] w fun e w'=>e=.returned (.int .i64 (if b then 0 else -1))∧Below w.heap.size w w':=by
 have HP:=za hp
 clear hp
 cases b with
 | true =>
  go_enter Tryz.func276,Tryz.ntmps276
  go_wp2
  refine wp_loop_rounds 1 ?_
  rw [rounds_succ]
  go_wp2_with (go_at_fn g; (with_reducible refine HP.out.mono ?_); rintro e w1 ⟨rfl,hb⟩; have HB:=za hb; clear hb)
  go_ret
  exact ⟨rfl,HB.out⟩
 | false =>
  go_enter Tryz.func276,Tryz.ntmps276
  go_wp2
  refine wp_loop_rounds 2 ?_
  rw [rounds_succ]
  go_wp2_with (go_at_fn g; (with_reducible refine HP.out.mono ?_); rintro e w1 ⟨rfl,hb⟩; have HB:=za hb; clear hb)
  rw [rounds_succ]
  go_wp2
  go_ret
  exact ⟨rfl,HB.out⟩
set_option maxRecDepth 100000 in
theorem jQ (fv:Value) (w:World):Calls Tryz.prog 261 #[.slice none 0 0,fv] w fun e w'=>e=.returned (.bool false)∧w'=w:=by
 have HP:=za (YK fv w)
 go_enter Tryz.func261,Tryz.ntmps261
 go_wp2_with fail
 with_reducible refine HP.out.mono ?_
 rintro e w1 ⟨rfl,rfl⟩
 go_wp2
 go_ret
 exact ⟨rfl,rfl⟩
set_option maxRecDepth 100000 in
theorem fZ (g:Nat) (B C:Nat) (f:Value) (b:Bool) (w:World) (eg:∀ args w,(callFunc g args).run Tryz.prog w=.ok (.enter g args) w) (hc:w.cell? ⟨B,0,none⟩=some f) (hp:Calls Tryz.prog g #[f,.pointer (some ⟨C,0,none⟩)] w (zQ b w)) :
  Calls Tryz.prog 261 #[.slice (some ⟨B,0,none⟩) 1 1,.func (.func g) #[] #[.pointer (some ⟨C,0,none⟩)]] w (zQ b w):=by
 have HP:=za (XS g B C f b w eg hc hp)
 clear hp hc
 cases b with
 | true =>
  go_enter Tryz.func261,Tryz.ntmps261
  go_wp2_with fail
  with_reducible refine HP.out.mono ?_
  rintro e w1 ⟨rfl,hb⟩
  have HB:=za hb
  clear hb HP
  go_wp2
  go_ret
  exact ⟨rfl,HB.out⟩
 | false =>
  go_enter Tryz.func261,Tryz.ntmps261
  go_wp2_with fail
  with_reducible refine HP.out.mono ?_
  rintro e w1 ⟨rfl,hb⟩
  have HB:=za hb
  clear hb HP
  go_wp2
  go_ret
  exact ⟨rfl,HB.out⟩
set_option maxRecDepth 100000 in
theorem U3 (p:Option Nat) (w:World):Calls Tryz.prog 246 #[.map p,.slice none 0 0] w (zQ true w):=by
 have hmf:=mkf
 have HP:Hid (∀ fv W,Calls Tryz.prog 261 #[.slice none 0 0,fv] W fun e w'=>e=.returned (.bool false)∧w'=W):=jQ
 have HB:=za (z8 (Below.refl w.heap.size w) (.cells #[.map p] 208))
 go_enter Tryz.func246,Tryz.ntmps246
 go_wp2_with fail
 with_reducible refine (HP.out _ _).mono ?_
 rintro e w1 ⟨rfl,rfl⟩
 go_wp2
 go_ret
 exact ⟨rfl,HB.out⟩
set_option maxRecDepth 100000 in
theorem YQ (C D b:Nat) (L:zy) (s:ByteArray) (w:World) (hs:s.size≤maxLen) (hC:w.cell? ⟨C,0,none⟩=some (.string s)) (hD:w.cell? ⟨D,0,none⟩=some (.map (some b))) (h:zG w b L) :
  Calls Tryz.prog 262 #[.func (.func 247) #[] #[.pointer (some ⟨C,0,none⟩)],.pointer (some ⟨D,0,none⟩)] w (zQ (!zE L s.data.toList) w):=by
 have eg:∀ args w,(callFunc 247 args).run Tryz.prog w=.ok (.enter 247 args) w:=enters_of Tryz.func247 (by kernel_rfl) rfl
 have HP:Hid (Calls Tryz.prog 247 #[.map (some b),.pointer (some ⟨C,0,none⟩)] w (zQ (zE L s.data.toList) w)):=(QL C b L s w hs hC h).mono fun e w' ⟨he,hw⟩=>⟨he,by rw [hw]; exact Below.refl _ _⟩
 clear hC h
 generalize zE L s.data.toList=r at *
 cases r with
 | true =>
  show Calls _ _ _ _ (zQ false w)
  go_enter Tryz.func262,Tryz.ntmps262
  go_wp2_with (go_at_fn 247; (with_reducible refine HP.out.mono ?_); rintro e w1 ⟨rfl,hb⟩; have HB:=za hb; clear hb)
  go_ret
  exact ⟨rfl,HB.out⟩
 | false =>
  show Calls _ _ _ _ (zQ true w)
  go_enter Tryz.func262,Tryz.ntmps262
  go_wp2_with (go_at_fn 247; (with_reducible refine HP.out.mono ?_); rintro e w1 ⟨rfl,hb⟩; have HB:=za hb; clear hb)
  go_ret
  exact ⟨rfl,HB.out⟩
set_option maxRecDepth 100000 in
theorem QV (A C b:Nat) (L:zy) (s:ByteArray) (w:World) (hs:s.size≤maxLen) (hA:w.cell? ⟨A,0,none⟩=some (.func (.func 247) #[] #[.pointer (some ⟨C,0,none⟩)])) (hC:w.cell? ⟨C,0,none⟩=some (.string s)) (h:zG w b L) :
  Calls Tryz.prog 246 #[.map (some b),.slice (some ⟨A,0,none⟩) 1 1] w (zQ (zE L s.data.toList) w):=by
 have hmf:=mkf
 have hb:=z8 (Below.refl w.heap.size w) (.cells #[.map (some b)] 208)
 have lA:A<w.heap.size:=World.block_lt_of_cell? w _ hA
 have lC:C<w.heap.size:=World.block_lt_of_cell? w _ hC
 have cA:=(hb.cell (p:=⟨A,0,none⟩) lA).trans hA
 have cC:=(hb.cell (p:=⟨C,0,none⟩) lC).trans hC
 have cD:(w.alloc (.cells #[.map (some b)] 208)).cell? ⟨w.heap.size,0,none⟩=some (.map (some b)):=by rw [World.cell?_alloc_at _ _ _ _ rfl]; rfl
 have HP:=za (fZ _ A w.heap.size _ _ _ (enters_of Tryz.func262 (by kernel_rfl) rfl) cA (YQ C w.heap.size b L s _ hs cC cD (h.kept (hb.block b (World.ownsMap.lt h)))))
 have HB:=za hb
 clear hb cA cC cD h hA hC lA lC
 generalize zE L s.data.toList=r at *
 cases r with
 | true =>
  go_enter Tryz.func246,Tryz.ntmps246
  go_wp2_with fail
  with_reducible refine HP.out.mono ?_
  rintro e w1 ⟨rfl,hb1⟩
  have HB1:=za (z7 HB.out hb1)
  clear hb1 HP
  go_wp2
  go_ret
  exact ⟨rfl,HB1.out⟩
 | false =>
  go_enter Tryz.func246,Tryz.ntmps246
  go_wp2_with fail
  with_reducible refine HP.out.mono ?_
  rintro e w1 ⟨rfl,hb1⟩
  have HB1:=za (z7 HB.out hb1)
  clear hb1 HP
  go_wp2
  go_ret
  exact ⟨rfl,HB1.out⟩

set_option maxRecDepth 100000 in
theorem yD (s:ByteArray) (w:World) (hl:s.size≤1000):Calls Tryz.prog 153 #[.string s] w fun e w'=>e=.returned (.string s)∧Below w.heap.size w w':=by
 have HC:=za (Tryz.stringslite_Clone s w (Nat.le_trans hl (by decide)))
 go_enter Tryz.func153,Tryz.ntmps153
 go_wp2_with fail
 with_reducible refine HC.out.mono ?_
 rintro e w1 ⟨rfl,hb⟩
 have HB:=za hb
 clear hb
 go_wp2
 go_ret
 exact ⟨rfl,HB.out⟩

set_option maxRecDepth 100000 in
theorem Zd (b:Nat) (L:zy) (s:ByteArray) (w:World) (h:zG w b L) (hf:L.length≤1000) (hs:s.size≤1000) :
  Calls Tryz.prog 224 #[.map (some b),.string s] w fun e w'=>e=.returned (.tuple #[])∧zG w' b (yB L s.data.toList ())∧zc (fun i=>i=b) w w':=by
 have HC:=za (yD s w hs)
 have HA:Hid (∀ W,Below w.heap.size w W→∃ w',(Instr.mapUpdate 208 (.map (some b)) (.string s) (.bool true)).run Tryz.prog W=.ok () w'∧zG w' b (yB L s.data.toList ())∧zc (fun i=>i=b) w w'):=fun W hb=>by
  obtain ⟨w',h1,h2,h3⟩:=add10 (h.kept (hb.block b (World.ownsMap.lt h))) hf s (Nat.le_trans hs (by decide))
  exact ⟨w',h1,h2,(zc.of_below hb _).grown h3.grown (fun k hk _=>by cases hk; rfl)⟩
 clear h
 go_enter Tryz.func224,Tryz.ntmps224
 go_wp2_with fail
 with_reducible refine HC.out.mono ?_
 rintro e w1 ⟨rfl,hb⟩
 obtain ⟨w2,hrun,h2,h3⟩:=HA.out w1 hb
 have H2:=za h2
 have H3:=za h3
 clear hb h2 h3 HA HC
 go_wp2
 go_end0
 exact ⟨rfl,H2.out,H3.out⟩

set_option maxRecDepth 100000 in
theorem VR (w:World):Calls Tryz.prog 64 #[] w fun e w'=>e=.returned (.pointer (some ⟨w.heap.size,0,none⟩))∧w'=w.alloc (.cells #[.map none] 167):=by
 go_enter Tryz.func64,Tryz.ntmps64
 go_wp2
 go_ret
 exact ⟨rfl,rfl⟩
theorem JQ (w:World):zF (w.alloc (.cells #[.map none] 167)) w.heap.size none [] :=
 ⟨(MapKept.heap_alloc w _).1,(fun _=>rfl),(fun _ h=>nomatch h),(fun _ h=>nomatch h),(fun _ h=>nomatch h),(fun _ h=>nomatch h),List.Pairwise.nil⟩

def vm (w:World) (B:Nat) (p:Option Nat) (T':zp) (w':World):Prop :=
 ∃ p',zF w' B p' T'∧(∀ c,p'=some c→p=some c∨w.heap.size≤c)∧zc (fun i=>i=B∨p=some i) w w'
theorem XW {w w':World} {B m b:Nat} {T:zp} {l:zy} {k:List UInt8} {n:Nat} (h:zF w B (some m) T) (hs:zG w b l) (hn:∀ x∈T,x.2.1≠b) (hm:m≠b) (ht:w.mapTurned w' m)
  (hown:w'.ownsMap Tryz.prog 9 R10 m n (vp Vr (yB T k (b,l)))):zF w' B (some m) (yB T k (b,l)):=by
 have htn:zc (fun i=>i=m) w w':=(zc.refl _ w).grown ht.grown (fun k hk _=>by cases hk; rfl)
 refine ⟨(htn.block B h.lt (fun e=>h.mne m rfl e.symm)).trans h.blk,(fun e=>nomatch e),fun c hc=>?_,fun x hx=>?_,fun x hx y hy e=>?_,fun x hx=>?_,yJ h.rise _ _⟩
 ·
  cases hc
  have:=vh hown
  rwa [vk] at this
 ·
  rcases yf.1 hx with rfl | ⟨hx,_⟩
  ·
   exact hs.kept (htn.block b (World.ownsMap.lt hs) (fun e=>hm e.symm))
  ·
   exact (h.sets x hx).kept (htn.block _ (h.slt x hx) (fun e=>h.off x hx (by rw [e])))
 ·
  rcases yf.1 hx with rfl | ⟨hx,_⟩ <;> rcases yf.1 hy with rfl | ⟨hy,_⟩
  ·
   rfl
  ·
   exact absurd e.symm (hn y hy)
  ·
   exact absurd e (hn x hx)
  ·
   exact h.one x hx y hy e
 ·
  rcases yf.1 hx with rfl | ⟨hx,_⟩
  ·
   intro e; injection e with e; exact hm e
  ·
   exact h.off x hx
theorem fQ {w:World} {B m b:Nat} {T:zp} {l:zy} (h:zF w B (some m) T) (hs:zG w b l) (hn:∀ x∈T,x.2.1≠b) (hm:m≠b) (hf:T.length≤1000) (g:ByteArray) (hg:g.size≤maxLen) :
  ∃ w',(Instr.mapUpdate 165 (.map (some m)) (.string g) (.map (some b))).run Tryz.prog w=.ok () w'∧zF w' B (some m) (yB T g.data.toList (b,l))∧zc (fun i=>i=m) w w':=by
 obtain ⟨w',hrun,hown,ht⟩:=(h.map m rfl).store xe Tryz.underlying165 (Nat.lt_of_le_of_lt hf (by decide)) (jP g hg) (show R10 (.map (some b))=some (.lit (.int .i64 b),[]) from rfl)
 have e:vp Vr (yB T g.data.toList (b,l))=(vp Vr T).put (.string g.data.toList) (.lit (.int .i64 b)):=(YW Vr T _ (b,l)).symm
 exact ⟨w',hrun,XW h hs hn hm ht (by rw [e]; exact hown),(zc.refl _ w).grown ht.grown (fun k hk _=>by cases hk; rfl)⟩

def YP10 (B m b:Nat) (g:ByteArray):Nat→Value→Prop
 | 3,v=>v=.map (some m)
 | 4,v=>v=.string g
 | 5,v=>v=.string g
 | 6,v=>v=.map (some b)
 | _,v=>v=.pointer (some ⟨B,0,none⟩)
def YPut10 (B m b:Nat) (g:ByteArray) (j:Nat) (v:Value) (_:World):Prop:=YP10 B m b g j v

set_option maxRecDepth 100000 in
theorem Qt (B m b:Nat) (T:zp) (l:zy) (g:ByteArray) (w:World) (h:zF w B (some m) T) (hs:zG w b l) (hn:∀ x∈T,x.2.1≠b) (hm:m≠b) (hf:T.length≤1000) (hg:g.size≤1000) :
  Calls Tryz.prog 201 #[.pointer (some ⟨B,0,none⟩),.string g,.map (some b)] w fun e w'=>e=.returned (.tuple #[])∧vm w B (some m) (yB T g.data.toList (b,l)) w':=by
 have HC:Hid (∀ W,Calls Tryz.prog 153 #[.string g] W fun e w'=>e=.returned (.string g)∧Below W.heap.size W w'):=fun W=>yD g W hg
 have hq:=UD w (some m)
 have hc:=h.cell
 have HG1:=za h
 have HST:Hid (∀ W,Below w.heap.size w W→∃ w',(Instr.mapUpdate 165 (.map (some m)) (.string g) (.map (some b))).run Tryz.prog W=.ok () w'∧vm w B (some m) (yB T g.data.toList (b,l)) w'):=fun W hb=>by
  obtain ⟨w',h1,h2,h3⟩:=fQ (h.later hb) (hs.kept (hb.block b (World.ownsMap.lt hs))) hn hm hf g (Nat.le_trans hg (by decide))
  exact ⟨w',h1,some m,h2,(fun _ e=>.inl e),(zc.of_below hb _).next h3 (fun i _ e=>.inr (by rw [e]))⟩
 clear h hs hn hm hf
 go_enter Tryz.func201,Tryz.ntmps201
 go_wp2_with fail

 refine zI (by kernel_rfl) 7 (fun W=>Below w.heap.size w W) (fun W=>vm w B (some m) (yB T g.data.toList (b,l)) W) (YPut10 B m b g) (fun _=>True) ?F ?hF (by kernel_rfl) (by kernel_rfl) (by kernel_rfl) (by kernel_rfl) (by decide) (zz (Below.refl _ _)) ?step ?fin
 case hF =>
  intro x
  simp only [List.map_cons,List.map_nil,xw,Act.put,List.setIfInBounds_toArray,List.set_cons_zero,List.set_cons_succ,Nat.zero_add,Nat.reduceAdd]
  exact rfl
 case step =>
  refine ⟨?_,?_,?_,?_,?_,?_,?_,?_,trivial⟩
  ·
   intro x W
   refine ⟨fun _ hW hdep K hK=>?_,(fun h=>absurd h (by decide)),(fun h=>absurd h (by decide))⟩
   clear hdep
   go_simp
   exact hK _ _ rfl hW (fun _ _ h=>h)
  ·
   intro x W
   refine ⟨fun _ hW hdep K hK=>?_,(fun h=>absurd h (by decide)),(fun h=>absurd h (by decide))⟩
   have h0:x 0=_:=hdep 0 rfl
   clear hdep
   simp only [h0] at hK
   go_simp
   exact hK _ _ rfl hW (fun _ _ h=>h)
  ·
   intro x W
   refine ⟨fun _ hW hdep K hK=>?_,(fun h=>absurd h (by decide)),(fun h=>absurd h (by decide))⟩
   have h1:x 1=_:=hdep 1 rfl
   clear hdep
   simp only [h1] at hK
   go_simp
   exact hK _ _ rfl hW (fun _ _ h=>h)
  ·
   intro x W
   refine ⟨fun _ hW hdep K hK=>?_,(fun h=>absurd h (by decide)),(fun h=>absurd h (by decide))⟩
   have h2:x 2=_:=hdep 2 rfl
   have c:=(HG1.out.later hW).cell
   clear hdep
   simp only [h2] at hK
   go_simp
   exact hK _ _ rfl hW (fun _ _ h=>h)
  ·
   intro x W
   refine ⟨fun _ hW hdep K hK=>?_,(fun h=>absurd h (by decide)),(fun h=>absurd h (by decide))⟩
   clear hdep
   go_simp
   exact hK _ _ rfl hW (fun _ _ h=>h)
  ·
   intro x W
   refine ⟨fun _ hW hdep K hK=>?_,(fun h=>absurd h (by decide)),(fun h=>absurd h (by decide))⟩
   have h4:x 4=_:=hdep 4 rfl
   have hc:=HC.out W
   clear hdep
   simp only [h4] at hK
   go_simp
   refine hc.mono ?_
   rintro e W' ⟨rfl,hb⟩
   exact hK _ _ rfl (z7 hW hb) (fun _ _ h=>h)
  ·
   intro x W
   refine ⟨fun _ hW hdep K hK=>?_,(fun h=>absurd h (by decide)),(fun h=>absurd h (by decide))⟩
   clear hdep
   go_simp
   exact hK _ _ rfl hW (fun _ _ h=>h)
  ·
   intro x W
   refine ⟨(fun h=>absurd h (by decide)),fun _ hW hdep K hK=>?_,(fun h=>absurd h (by decide))⟩
   have h3:x 3=_:=hdep 3 rfl
   have h5:x 5=_:=hdep 5 rfl
   have h6:x 6=_:=hdep 6 rfl
   obtain ⟨w',hrun,hg⟩:=HST.out W hW
   clear hdep
   simp only [h3,h5,h6] at hK
   go_simp
   exact hK undef _ trivial hg
 case fin =>
  intro x W hW _
  have HF:=za hW
  clear hW HG1 HST HC
  go_end0
  exact ⟨rfl,HF.out⟩

set_option maxRecDepth 100000 in
theorem Qu (B b:Nat) (l:zy) (g:ByteArray) (w:World) (h:zF w B none []) (hs:zG w b l) (hg:g.size≤1000) :
  Calls Tryz.prog 201 #[.pointer (some ⟨B,0,none⟩),.string g,.map (some b)] w fun e w'=>e=.returned (.tuple #[])∧vm w B none (yB [] g.data.toList (b,l)) w':=by
 have HC:Hid (∀ W,Calls Tryz.prog 153 #[.string g] W fun e w'=>e=.returned (.string g)∧Below W.heap.size W w'):=fun W=>yD g W hg
 have hq:=UD w none
 have hc:=h.cell
 have hf0:=h.frozen
 have hBl:=h.lt
 have hmm:=@run_makeMap Tryz.prog
 have hbl:b<w.heap.size:=World.ownsMap.lt hs
 have hbB:b≠B:=zO hs h.blk
 have hsz:(w.setCell ⟨B,0,none⟩ (.map (some w.heap.size))).heap.size=w.heap.size:=by simp [World.setCell]
 have hblk1:=heap_setCell_box_a (.map (some w.heap.size)) h.blk
 have hblk2:((w.setCell ⟨B,0,none⟩ (.map (some w.heap.size))).alloc (.map #[] 0)).heap[B]? = some (.cells #[.map (some w.heap.size)] 167 (0,0)):=(Below.heap_alloc _ _ B (by omega)).trans hblk1
 have hown:=World.ownsMap_made (H:=Unit) (w.setCell ⟨B,0,none⟩ (.map (some w.heap.size))) Tryz.prog 9 R10
 rw [hsz] at hown
 have ht1:zc (fun i=>i=B∨(none:Option Nat)=some i) w ((w.setCell ⟨B,0,none⟩ (.map (some w.heap.size))).alloc (.map #[] 0)):=((zc.refl _ w).setCell (p:=⟨B,0,none⟩) (fun _=>.inl rfl) _).alloc _
 have hG:zF ((w.setCell ⟨B,0,none⟩ (.map (some w.heap.size))).alloc (.map #[] 0)) B (some w.heap.size) []:=by
  refine ⟨hblk2,(fun e=>nomatch e),fun c hc=>?_,(fun _ h=>nomatch h),(fun _ h=>nomatch h),(fun _ h=>nomatch h),List.Pairwise.nil⟩
  cases hc
  exact hown
 have hs1:zG ((w.setCell ⟨B,0,none⟩ (.map (some w.heap.size))).alloc (.map #[] 0)) b l:=hs.kept (ht1.block b hbl (by rintro (e | e); exact hbB e; cases e))
 have HG1:=za hG
 have HST:Hid (∀ W,Below ((w.setCell ⟨B,0,none⟩ (.map (some w.heap.size))).alloc (.map #[] 0)).heap.size ((w.setCell ⟨B,0,none⟩ (.map (some w.heap.size))).alloc (.map #[] 0)) W→∃ w',(Instr.mapUpdate 165 (.map (some w.heap.size)) (.string g) (.map (some b))).run Tryz.prog W=.ok () w'∧vm w B none (yB [] g.data.toList (b,l)) w'):=fun W hb=>by
  obtain ⟨w',h1,h2,h3⟩:=fQ (hG.later hb) (hs1.kept (hb.block b (World.ownsMap.lt hs1))) (fun _ h=>nomatch h) (by omega) (by simp) g (Nat.le_trans hg (by decide))
  refine ⟨w',h1,some w.heap.size,h2,(fun c e=>.inr (by cases e; exact Nat.le_refl _)),(ht1.next (zc.of_below hb (fun _=>False)) (fun _ _ f=>f.elim)).next h3 (fun i hi e=>?_)⟩
  omega
 obtain ⟨hc2,hf2⟩:=cell_of_box_a hblk2
 clear h hs hs1 hG hown hblk1 hblk2 ht1 hbl hbB hsz
 go_enter Tryz.func201,Tryz.ntmps201
 go_wp2_with fail
 generalize (w.setCell ⟨B,0,none⟩ (.map (some w.heap.size))).alloc (.map #[] 0)=w1 at *

 refine zI (by kernel_rfl) 7 (fun W=>Below w1.heap.size w1 W) (fun W=>vm w B none (yB [] g.data.toList (b,l)) W) (YPut10 B w.heap.size b g) (fun _=>True) ?F ?hF (by kernel_rfl) (by kernel_rfl) (by kernel_rfl) (by kernel_rfl) (by decide) (zz (Below.refl _ _)) ?step ?fin
 case hF =>
  intro x
  simp only [List.map_cons,List.map_nil,xw,Act.put,List.setIfInBounds_toArray,List.set_cons_zero,List.set_cons_succ,Nat.zero_add,Nat.reduceAdd]
  exact rfl
 case step =>
  refine ⟨?_,?_,?_,?_,?_,?_,?_,?_,trivial⟩
  ·
   intro x W
   refine ⟨fun _ hW hdep K hK=>?_,(fun h=>absurd h (by decide)),(fun h=>absurd h (by decide))⟩
   clear hdep
   go_simp
   exact hK _ _ rfl hW (fun _ _ h=>h)
  ·
   intro x W
   refine ⟨fun _ hW hdep K hK=>?_,(fun h=>absurd h (by decide)),(fun h=>absurd h (by decide))⟩
   have h0:x 0=_:=hdep 0 rfl
   clear hdep
   simp only [h0] at hK
   go_simp
   exact hK _ _ rfl hW (fun _ _ h=>h)
  ·
   intro x W
   refine ⟨fun _ hW hdep K hK=>?_,(fun h=>absurd h (by decide)),(fun h=>absurd h (by decide))⟩
   have h1:x 1=_:=hdep 1 rfl
   clear hdep
   simp only [h1] at hK
   go_simp
   exact hK _ _ rfl hW (fun _ _ h=>h)
  ·
   intro x W
   refine ⟨fun _ hW hdep K hK=>?_,(fun h=>absurd h (by decide)),(fun h=>absurd h (by decide))⟩
   have h2:x 2=_:=hdep 2 rfl
   have c:=(HG1.out.later hW).cell
   clear hdep
   simp only [h2] at hK
   go_simp
   exact hK _ _ rfl hW (fun _ _ h=>h)
  ·
   intro x W
   refine ⟨fun _ hW hdep K hK=>?_,(fun h=>absurd h (by decide)),(fun h=>absurd h (by decide))⟩
   clear hdep
   go_simp
   exact hK _ _ rfl hW (fun _ _ h=>h)
  ·
   intro x W
   refine ⟨fun _ hW hdep K hK=>?_,(fun h=>absurd h (by decide)),(fun h=>absurd h (by decide))⟩
   have h4:x 4=_:=hdep 4 rfl
   have hc:=HC.out W
   clear hdep
   simp only [h4] at hK
   go_simp
   refine hc.mono ?_
   rintro e W' ⟨rfl,hb⟩
   exact hK _ _ rfl (z7 hW hb) (fun _ _ h=>h)
  ·
   intro x W
   refine ⟨fun _ hW hdep K hK=>?_,(fun h=>absurd h (by decide)),(fun h=>absurd h (by decide))⟩
   clear hdep
   go_simp
   exact hK _ _ rfl hW (fun _ _ h=>h)
  ·
   intro x W
   refine ⟨(fun h=>absurd h (by decide)),fun _ hW hdep K hK=>?_,(fun h=>absurd h (by decide))⟩
   have h3:x 3=_:=hdep 3 rfl
   have h5:x 5=_:=hdep 5 rfl
   have h6:x 6=_:=hdep 6 rfl
   obtain ⟨w',hrun,hg⟩:=HST.out W hW
   clear hdep
   simp only [h3,h5,h6] at hK
   go_simp
   exact hK undef _ trivial hg
 case fin =>
  intro x W hW _
  have HF:=za hW
  clear hW HG1 HST HC
  go_end0
  exact ⟨rfl,HF.out⟩

theorem VL (B b:Nat) (p:Option Nat) (T:zp) (l:zy) (g:ByteArray) (w:World) (h:zF w B p T) (hs:zG w b l) (hn:∀ x∈T,x.2.1≠b) (hm:p≠some b) (hf:T.length≤1000) (hg:g.size≤1000) :
  Calls Tryz.prog 201 #[.pointer (some ⟨B,0,none⟩),.string g,.map (some b)] w fun e w'=>e=.returned (.tuple #[])∧vm w B p (yB T g.data.toList (b,l)) w':=by
 cases p with
 | none =>
  have:=h.nil rfl
  subst this
  exact Qu B b l g w h hs hg
 | some m=>exact Qt B m b T l g w h hs hn (fun e=>hm (by rw [e])) hf hg


set_option maxRecDepth 100000 in
theorem QT (B:Nat) (p:Option Nat) (T:zp) (g:ByteArray) (A:Nat) (n:ByteArray) (w:World) (h:zF w B p T) (hg:g.size≤9223372036854775807) (hn:n.size≤9223372036854775807) (hA:w.cell? ⟨A,0,none⟩=some (.string n)) :
  Calls Tryz.prog 226 #[.pointer (some ⟨B,0,none⟩),.string g,.slice (some ⟨A,0,none⟩) 1 1] w fun e w'=>e=.returned (.tuple #[.map (if xn (zh T) g.data.toList [n.data.toList]=0 then qw T g.data.toList else none),.int .i64 (xn (zh T) g.data.toList [n.data.toList])])∧Below w.heap.size w w':=by
 have HI:=za h
 have hb0:Below w.heap.size w (w.alloc (.cells #[.string g] 9)):=z8 (Below.refl _ _) _
 have HN:=za (uq w.heap.size g _ hg (show (w.alloc (.cells #[.string g] 9)).cell? ⟨w.heap.size,0,none⟩=some (.string g) by rw [World.cell?_alloc_at _ _ _ _ rfl]; rfl))
 have HB0:=za hb0
 have HLK:Hid (∀ W,Below w.heap.size w W→(Instr.lookup 165 (.map p) (.string g) true).run Tryz.prog W=.ok (.tuple #[.map (qw T g.data.toList),.bool (zE T g.data.toList)]) W):=fun W hb=>look10 (h.later hb) g (Nat.le_trans hg (by decide))
 unfold xn
 rw [qg]
 have hbn:zE T g.data.toList=false→qw T g.data.toList=none:=J3
 have lA:A<w.heap.size:=World.block_lt_of_cell? w _ hA
 have HM:Hid (∀ W,Below w.heap.size w W→Calls Tryz.prog 200 #[.slice (some ⟨A,0,none⟩) 1 1] W (zQ (zf n.data.toList) W)):=fun W hb=>uq A n W hn ((hb.cell (p:=⟨A,0,none⟩) lA).trans hA)
 clear hA lA
 simp only [List.all_cons,List.all_nil,Bool.and_true]
 generalize zf n.data.toList=d at *
 clear hb0 h
 generalize qw T g.data.toList=o at *
 generalize zE T g.data.toList=b at *
 generalize zf g.data.toList=a at *
 cases a with
 | false =>
  show Calls _ _ _ _ fun e w'=>e=.returned (.tuple #[.map none,.int .i64 10])∧Below w.heap.size w w'
  go_enter Tryz.func226,Tryz.ntmps226
  go_wp2_with fail
  with_reducible refine HN.out.mono ?_
  rintro e w1 ⟨rfl,hb⟩
  have HB:=za (z7 HB0.out hb)
  clear hb HN
  go_wp2
  go_ret2
  exact ⟨rfl,HB.out⟩
 | true =>
  cases d with
  | false =>
   show Calls _ _ _ _ fun e w'=>e=.returned (.tuple #[.map none,.int .i64 10])∧Below w.heap.size w w'
   go_enter Tryz.func226,Tryz.ntmps226
   go_wp2_with fail
   with_reducible refine HN.out.mono ?_
   rintro e w1 ⟨rfl,hb⟩
   have hb1:=z7 HB0.out hb
   have HB1:=za hb1
   have HM1:=za (HM.out w1 hb1)
   clear hb hb1
   go_wp2_with fail
   with_reducible refine HM1.out.mono ?_
   rintro e w2 ⟨rfl,hb⟩
   have HB2:=za (z7 HB1.out hb)
   clear hb HM1 HM
   go_wp2
   go_ret2
   exact ⟨rfl,HB2.out⟩
  | true =>
   cases b with
   | false =>
    rw [hbn rfl]
    show Calls _ _ _ _ fun e w'=>e=.returned (.tuple #[.map none,.int .i64 8])∧Below w.heap.size w w'
    go_enter Tryz.func226,Tryz.ntmps226
    go_wp2_with fail
    with_reducible refine HN.out.mono ?_
    rintro e w1 ⟨rfl,hb⟩
    have hb1:=z7 HB0.out hb
    have HB1:=za hb1
    have HM1:=za (HM.out w1 hb1)
    clear hb hb1
    go_wp2_with fail
    with_reducible refine HM1.out.mono ?_
    rintro e w2 ⟨rfl,hb⟩
    have HB2:=za (z7 HB1.out hb)
    clear hb HM1 HM
    have c2:=(HI.out.later HB2.out).cell
    have l2:=HLK.out _ HB2.out
    clear HN HLK HI
    go_wp2
    go_ret2
    exact ⟨rfl,HB2.out⟩
   | true =>
    show Calls _ _ _ _ fun e w'=>e=.returned (.tuple #[.map o,.int .i64 0])∧Below w.heap.size w w'
    go_enter Tryz.func226,Tryz.ntmps226
    go_wp2_with fail
    with_reducible refine HN.out.mono ?_
    rintro e w1 ⟨rfl,hb⟩
    have hb1:=z7 HB0.out hb
    have HB1:=za hb1
    have HM1:=za (HM.out w1 hb1)
    clear hb hb1
    go_wp2_with fail
    with_reducible refine HM1.out.mono ?_
    rintro e w2 ⟨rfl,hb⟩
    have HB2:=za (z7 HB1.out hb)
    clear hb HM1 HM
    have c2:=(HI.out.later HB2.out).cell
    have l2:=HLK.out _ HB2.out
    clear HN HLK HI
    go_wp2
    go_ret2
    exact ⟨rfl,HB2.out⟩
end Go.Proofs.YthmomkjingcbiaaGreatDoor
namespace Go.Proofs.YthmomkjingcbiaaGreatDoor
open Go.RowKit Go.Maps Go.Sort Go.Shelf

theorem lt10 (x y:List UInt8):ltOf Lib.compareBytes x y=bytesBefore x y:=xY x y
theorem swo10:SWO (ltOf Lib.compareBytes) where
 irrefl x:=by rw [lt10]; exact zn x
 trans x y z h1 h2:=by rw [lt10] at *; exact WideShapes.bytes_trans _ _ _ h1 h2
 ntrans x y z h1 h2:=by
  rw [lt10] at *
  cases h:bytesBefore x z
  ·
   rfl
  ·
   by_cases e:x=y
   ·
    subst e; rw [h] at h2; cases h2
   ·
    rcases WideAt.bytes_total x y e with h' | h'
    ·
     rw [h'] at h1; cases h1
    ·
     rw [WideShapes.bytes_trans _ _ _ h' h] at h2; cases h2
theorem tot10 (x y:List UInt8) (h1:ltOf Lib.compareBytes x y=false) (h2:ltOf Lib.compareBytes y x=false):x=y:=by
 rw [lt10] at *
 by_cases e:x=y
 ·
  exact e
 ·
  rcases WideAt.bytes_total x y e with h' | h'
  ·
   rw [h'] at h1; cases h1
  ·
   rw [h'] at h2; cases h2
set_option maxRecDepth 100000 in
theorem Z0 (a b:ByteArray) (w:World) :
  Calls Tryz.prog 138 #[.string a,.string b] w fun e w'=>e=.returned (.int .i64 (Lib.compareBytes a.data.toList b.data.toList))∧w'=w:=by
 have HC:=za (Tryz.strings_Compare a b w)
 generalize Lib.compareBytes a.data.toList b.data.toList=r at *
 go_enter Tryz.func138,Tryz.ntmps138
 go_wp2_with fail
 with_reducible refine HC.out.mono ?_
 rintro e w1 ⟨rfl,rfl⟩
 go_wp2
 go_ret
 exact ⟨rfl,rfl⟩
theorem cmp10 (blk off size:Nat) (w:World):CmpLays1 Tryz.prog 138 #[] encStr Lib.compareBytes blk off size w :=
 CmpReads.lays fun _ _ _ _ x y=>(Z0 ⟨x.toArray⟩ ⟨y.toArray⟩ _).mono fun e w' ⟨he,hw⟩=>⟨by rw [he],0,hw⟩
theorem Xj (blk cap:Nat) (ss ls:List (List UInt8)) (W:World) (hr:vl ls) (hp:ss.Perm ls) (hH:Holds encStr W blk 0 ss.toArray) (hb:blk<W.heap.size) (hl:ss.length<4611686018427387904) :
  Calls Tryz.prog 210 #[.slice (some ⟨blk,0,none⟩) ss.length cap,.func (.func 138) #[] #[]] W fun e w'=>e=.returned (.tuple #[])∧∃ n os,w'=grow (putRow encStr (Sort.ahead W n) blk 0 ls.toArray) os:=by
 have:=Tryz.slices_SortFunc_total encStr (fun _=>rfl) Lib.compareBytes swo10 138 #[] blk 0 cap ss.toArray W (enters_of Tryz.func138 (by kernel_rfl) rfl) (cmp10 blk 0 _ W) hH hb (by simpa using hl) tot10
 rw [← Xg hr hp (fun x y=>!(ltOf Lib.compareBytes) y x) (fun x y=>by rw [lt10])]
 simpa [sortWorld] using this
theorem fp (cap:Nat) (W:World):Calls Tryz.prog 210 #[.slice none 0 cap,.func (.func 138) #[] #[]] W fun e w'=>e=.returned (.tuple #[])∧w'=W :=
 Tryz.slices_SortFunc_none (α:=List UInt8) none cap _ W

def vW {V:Type} (T:zX V) (q:List UInt8×V→Bool) (left:Lit→Bool) (ss:List (List UInt8)):Prop:=ss.Nodup∧∀ x,x∈ss↔∃ p∈T,p.1=x∧q p=true∧left (.string x)=false
section
variable {V:Type} {T:zX V} {q:List UInt8×V→Bool} {left:Lit→Bool} {ss:List (List UInt8)}
theorem vW.start (e:V→DataW Unit):vW T q (Maps.has (vp e T)) []:=⟨List.nodup_nil,fun x=>by
 constructor
 ·
  intro h; cases h
 ·
  rintro ⟨p,hp,rfl,_,h⟩
  rw [fc,xf.2 ⟨p,hp,rfl⟩] at h
  cases h⟩
theorem Fj {e:V→DataW Unit} (hr:zB T) {x:List UInt8} {y:DataW Unit} (hat:∀ zd,(vp e T).atKey (.string x) zd=y):∃ p∈T,p.1=x∧e p.2=y:=by
 have h1:Maps.has (vp e T) (.string x)=true:=has_true_of_atKey hat
 rw [fc] at h1
 obtain ⟨v,hv⟩:=YM h1
 have h2:=hat .nil
 rw [fd _ hv] at h2
 exact ⟨(x,v),(zV hr).1 hv,rfl,h2⟩
theorem vW.hit (h:vW T q left ss) {p:List UInt8×V} (hp:p∈T) (hq:q p=true) (hlk:left (.string p.1)=true):vW T q (fun z=>left z && !z.sameKey (.string p.1)) (ss++[p.1]):=by
 have hnew:p.1∉ss:=fun hx=>by obtain ⟨_,_,_,_,h'⟩:=(h.2 _).1 hx; rw [hlk] at h'; cases h'
 refine ⟨List.nodup_append.2 ⟨h.1,by simp,fun a ha b hb=>by simp at hb; subst hb; exact fun e=>hnew (e ▸ ha)⟩,fun y=>?_⟩
 by_cases hy:y=p.1
 ·
  subst hy
  constructor
  ·
   intro _; exact ⟨p,hp,rfl,hq,by simp [Lit.sameKey]⟩
  ·
   intro _; simp
 ·
  simp [h.2 y,hy,Lit.sameKey]
theorem vW.miss (hr:zB T) (h:vW T q left ss) {p:List UInt8×V} (hp:p∈T) (hq:q p=false):vW T q (fun z=>left z && !z.sameKey (.string p.1)) ss:=by
 refine ⟨h.1,fun y=>?_⟩
 rw [h.2 y]
 refine exists_congr fun p'=>and_congr_right fun hp'=>and_congr_right fun e=>and_congr_right fun hq'=>?_
 have:y≠p.1:=fun ey=>by
  have:=Xp hr hp' hp (e.trans ey)
  rw [this,hq] at hq'
  cases hq'
 simp [Lit.sameKey,this]
theorem vW.perm (hr:zB T) (h:vW T q left ss) (hl:∀ kl,left kl=false):ss.Perm (zb (T.filter q)):=by
 refine (List.perm_ext_iff_of_nodup h.1 ?_).2 fun x=>?_
 ·
  have h1:vl (zb (T.filter q)):=zB.names (hr.filter _)
  exact h1.imp fun {a b} hab e=>by subst e; rw [zn] at hab; cases hab
 ·
  rw [h.2 x]
  unfold zb
  simp only [List.mem_map,List.mem_filter,hl]
  constructor
  ·
   rintro ⟨p,hp,rfl,hq,_⟩; exact ⟨p,⟨hp,hq⟩,rfl⟩
  ·
   rintro ⟨p,⟨hp,hq⟩,rfl⟩; exact ⟨p,hp,rfl,hq,trivial⟩
end
theorem uX {w w':World} {P:Program} {k:TypeId} {R:Value→Option (DataW Unit×List MemPlace)} {b r n:Nat} {D:DataW Unit} {left:Lit→Bool} {cnt:Nat} (h:w.ranges P k R b r n D left cnt) (hb:Below w.heap.size w w'):w'.ranges P k R b r n D left cnt:=by
 have h1:=h.owns.lt
 have h2:=h.lt
 obtain ⟨es,clock,since,seen,c0,hb',F,hs,hD,hr,rest⟩:=h
 exact ⟨es,clock,since,seen,c0,(hb.block b h1).trans hb',F,hs,hD,(hb.block r h2).trans hr,rest⟩
theorem XR:(Tryz.prog.info? 9).map (fun i=>(i.zero,i.size,i.bytes))=some (some (.string ⟨#[]⟩),1,16):=by kernel_rfl


def zR (ls:List (List UInt8)) (w:World) (e:Ending) (w':World):Prop :=
 ∃ v,e=.returned v∧w'.ownsRow w.heap.size 9 1 v ls.length (ls.map encStr)∧Below w.heap.size w w'
theorem zv {w:World} {a b:Nat} {e size n:Nat} {v:Value} {xs:List Value} (h:w.ownsRow b e size v n xs) (hab:a≤b):w.ownsRow a e size v n xs:=by
 refine ⟨h.1,?_⟩
 rcases h.2 with hn | ⟨g,cap,cur,e1,h0,hg,hr⟩
 ·
  exact .inl hn
 ·
  exact .inr ⟨g,cap,cur,e1,Nat.le_trans hab h0,hg,hr⟩
theorem xd {w w':World} {b:Nat} {e size n:Nat} {v:Value} {xs:List Value} (h:w.ownsRow b e size v n xs) (hb:Below w.heap.size w w'):w'.ownsRow b e size v n xs:=by
 refine ⟨h.1,?_⟩
 rcases h.2 with hn | ⟨g,cap,cur,e1,h0,hg,hr⟩
 ·
  exact .inl hn
 ·
  exact .inr ⟨g,cap,cur,e1,h0,(hb.block g (Array.getElem?_eq_some_iff.1 hg).1).trans hg,hr⟩

set_option maxRecDepth 100000 in
theorem qE (b:Nat) (T:zX (Nat×zy)) (q:List UInt8×(Nat×zy)→Bool) (av:Value) (w:World) (hr:zB T) (hf:T.length≤1000) (hown:w.ownsMap Tryz.prog 9 (R10) b T.length (vp Vr T))
  (hev:∀ W,Below w.heap.size w W→∀ x∈T,Calls Tryz.prog 246 #[.map (some x.2.1),av] W (zQ (q x) W)) :
  Calls Tryz.prog 204 #[.map (some b),av] w (zR (zb (T.filter q)) w):=by
 obtain ⟨i0,hi,hz0,hz1,hz2⟩:=info_parts XR
 have hbl:=hown.lt
 have HEV:=za hev
 have HR:=za hr
 clear hev hr
 have hsz:Maps.size (vp Vr T)=T.length:=vk Vr T
 have HSRT:Hid (∀ blk cap (ss ls:List (List UInt8)) (W:World),vl ls→ss.Perm ls→Holds encStr W blk 0 ss.toArray→blk<W.heap.size→ss.length<4611686018427387904→Calls Tryz.prog 210 #[.slice (some ⟨blk,0,none⟩) ss.length cap,.func (.func 138) #[] #[]] W fun e w'=>e=.returned (.tuple #[])∧∃ n os,w'=grow (putRow encStr (Sort.ahead W n) blk 0 ls.toArray) os):=Xj
 have HSRT0:Hid (∀ cap W,Calls Tryz.prog 210 #[.slice none 0 cap,.func (.func 138) #[] #[]] W fun e w'=>e=.returned (.tuple #[])∧w'=W):=fp
 go_enter Tryz.func204,Tryz.ntmps204
 go_wp2_with (first
  | (at_range; refine wpList_range_own _ rfl _ 165 rfl 9 208 xe Tryz.underlying165 _ b _ _ rfl hown ?_; intro w0 hrg0 hg0 hs0)
  | go_in)
 go_frame
 rw [hsz] at hrg0
 have hs1:w0.heap.size=w.heap.size+1:=hs0
 obtain ⟨len,hlen⟩:∃ len,len=T.length:=⟨_,rfl⟩
 rw [← hlen] at hrg0 hf
 have HLN:=za hlen
 clear hs0 hown hlen hsz
 go_loopw [5] (fun v wr=>∃ (left:Lit→Bool) (cnt:Nat) (ss:List (List UInt8)),Hid (wr.ranges Tryz.prog 9 (R10) b w.heap.size len (vp Vr T) left cnt)∧ss.length+cnt≤len ∧
   Hid (wr.ownsRow w.heap.size 9 1 v ss.length (ss.map encStr))∧Hid (vW T q left ss)∧Hid (Below w.heap.size w wr))
  (fun _ wr=>wr.rangeLeft b w.heap.size)
 case atStart =>
  exact ⟨_,_,[],hrg0,by simp,World.ownsRow_nil _ _ _ _,vW.start Vr,(Below.refl _ _).grown hg0 (Nat.le_refl _) (fun j hj=>by cases hj)⟩
 case round =>
  obtain ⟨left,cnt,ss,HRG,hcs,HROW,HC,HNX⟩:=hrel
  have hrg:=HRG.out
  go_wp2_with (first
   | (at_next; refine wpList_next_ranges _ rfl _ rfl 9 xe (R10) encStr Value.map (fun key kl hk=>by obtain ⟨x,hx,_⟩:=Maps.keyOf_str Tryz.underlying9 hk; exact ⟨x,hx⟩) (fun v y hv=>by obtain ⟨c,rfl,_⟩:=Yr hv; exact ⟨c,rfl⟩) b w.heap.size len _ _ _ rfl hrg ?_ ?_)
   | go_in)
  ·
   intro hc0 hl0
   have hp:=HC.out.perm HR.out hl0
   have hrt:vl (zb (T.filter q)):=zB.names (HR.out.filter _)
   have hpl:=hp.length_eq
   have hrow:=HROW.out
   rcases hrow.2 with ⟨hnil,hz⟩ | ⟨g,cap,cur,rfl,hbase,hgb,r1,r2,r3,r4⟩
   ·
    subst hnil
    have hss:ss=[]:=List.eq_nil_of_length_eq_zero hz
    subst hss
    have hne:zb (T.filter q)=[]:=List.eq_nil_of_length_eq_zero hpl.symm
    have HF:Hid (zR (zb (T.filter q)) w (.returned (.slice none 0 0)) wr):=by
     rw [hne]
     exact ⟨_,rfl,World.ownsRow_nil _ _ _ _,HNX.out⟩
    clear hrow hz hne hpl hrt hp hrg hl0
    go_wp2_with (go_at_call 210; (with_reducible refine (HSRT0.out _ _).mono ?_); rintro e w' ⟨rfl,rfl⟩)
    go_ret
    exact HF.out
   ·
    have hH:Holds encStr wr g 0 ss.toArray:=holds_of_block hgb (by simpa using r4)
    have hgl:g<wr.heap.size:=(Array.getElem?_eq_some_iff.1 hgb).1
    have cS:=za (HSRT.out g cap ss _ wr hrt hp hH hgl (by omega))
    have HF:Hid (∀ n os,zR (zb (T.filter q)) w (.returned (.slice (some ⟨g,0,none⟩) ss.length cap)) (grow (putRow encStr (Sort.ahead wr n) g 0 (zb (T.filter q)).toArray) os)):=fun n os=>by
     refine ⟨_,rfl,?_,HNX.out.grown (grownBy_sorted _) HNX.out.size (fun j hj=>by cases hj; exact hbase)⟩
     have:=ownsRow_sorted (ts:=zb (T.filter q)) (n:=n) (os:=os) hpl.symm hbase hgb r1 r2 r3
     rw [← hpl]; exact this
    clear hrow hbase hgb r1 r2 r3 r4 hH hgl hpl hp hrt hrg hl0
    generalize ss.length=n at *
    go_wp2_with (go_at_call 210; (with_reducible refine cS.out.mono ?_); rintro e w' ⟨rfl,nn,os,rfl⟩)
    go_ret
    exact HF.out nn os
  ·
   intro x c kl yd yp w2 cnt2 hkey hlk hv hat hrg2 hlt hg2 hs2 hen
   obtain ⟨x',ex,rfl,_⟩:=Maps.keyOf_str Tryz.underlying9 hkey
   obtain rfl:x=x':=encStr_inj ex
   obtain ⟨p,hpT,rfl,hpe⟩:=Fj HR.out hat
   obtain rfl:(some p.2.1)=c:=by
    obtain ⟨o,ho,hz⟩:=Yr hv
    have e1:c=o:=by injection ho
    have e2:ob10 (some p.2.1)=ob10 o:=hpe.trans hz
    rw [e1]; exact Yx e2
   have hnx2:Below w.heap.size w w2:=HNX.out.grown hg2 HNX.out.size (fun j hj=>by cases hj; exact Nat.le_refl _)
   have hrow2:=HROW.out.kept hg2 (Or.inr (row_ne_iter HROW.out hrg).symm)
   have HEV2:=za (HEV.out w2 hnx2 p hpT)
   have HNX2:=za hnx2
   have HROW2:=za hrow2
   have HRG2:=za hrg2
   have hkz:(fun l:List UInt8=>(Value.string ⟨l.toArray⟩)) p.1=encStr p.1:=rfl
   have HLT:Hid (cnt2<wr.rangeLeft b w.heap.size):=by rw [show wr.rangeLeft b w.heap.size=cnt from hrg.left_eq]; exact hlt
   have HPT:=za hpT
   have HLK:=za hlk
   clear hs2 hnx2 hrow2 hrg2 hkz hpT hat hv hpe hkey hg2 HROW HRG hrg HNX HEV hlk
   have hlt2:ss.length+cnt2+1≤len:=by omega
   have hkv:encStr p.1=.string (zY p.1):=rfl
   have HKV:=za hkv
   rw [hkv] at hen ⊢
   clear hkv
   cases hq:q p with
   | true =>
    rw [hq] at HEV2
    have HC2:=za (HC.out.hit HPT.out hq HLK.out)
    clear HC hq HLK
    generalize zY p.1=kv at *
    go_wp2_with (first
     | (go_at_call 246; (with_reducible refine HEV2.out.mono ?_); rintro e w3 ⟨rfl,hb3⟩; have HROW3:=za (xd HROW2.out hb3); have HRG3:=za (uX HRG2.out hb3); have HNX3:=za (z7 HNX2.out hb3); clear hb3)
     | (at_builtin; refine wpList_append_own _ rfl _ _ 45 rfl w.heap.size 9 i0 (.string ⟨#[]⟩) 1 16 Tryz.underlying45 hi hz0 hz1 hz2 rfl (by decide) _ _ _ rfl (HROW3.out.alloc _) ⟨w3.heap.size,0,none⟩ 1 1 [.string kv] rfl rfl (cell_one_new _ _ _) (by simp [Value.oneCell']) (by unfold maxLen at *; omega) (by omega) (by have:=HNX3.out.size; simp; omega) ?_; intro v' w4 hown' hg4 hnil4; have HOW:=za hown'; have HG4:=za hg4; clear hown' hg4 hnil4; go_frame)
     | go_in)
    have HRG4:=za ((HRG3.out.alloc _).kept HG4.out (row_ne_low HROW3.out hbl) (row_ne_iter HROW3.out HRG3.out))
    have ho:=HOW.out
    rw [← HKV.out] at ho
    have HB4:=za ((z7 HNX3.out (z8 (Below.refl _ _) _)).grown HG4.out (by have:=HNX3.out.size; simp; omega) (fun j hj=>(HROW3.out.lt j hj).1))
    have HO4:Hid (w4.ownsRow w.heap.size 9 1 v' (ss++[p.1]).length ((ss++[p.1]).map encStr)):=by
     show w4.ownsRow _ _ _ _ _ _
     simpa using ho
    clear ho
    go_roundw
    case rel=>exact ⟨_,cnt2,ss++[p.1],HRG4,by simp; omega,HO4,HC2,HB4⟩
    case measure=>rw [HRG4.out.left_eq]; exact HLT.out
   | false =>
    rw [hq] at HEV2
    have HC2:=za (HC.out.miss HR.out HPT.out hq)
    clear HC hq HLK
    generalize zY p.1=kv at *
    go_wp2_with (first
     | (go_at_call 246; (with_reducible refine HEV2.out.mono ?_); rintro e w3 ⟨rfl,hb3⟩; have HROW3:=za (xd HROW2.out hb3); have HRG3:=za (uX HRG2.out hb3); have HNX3:=za (z7 HNX2.out hb3); clear hb3)
     | go_in)
    go_roundw
    case rel=>exact ⟨_,cnt2,ss,HRG3,by omega,HROW3,HC2,HNX3⟩
    case measure=>rw [HRG3.out.left_eq]; exact HLT.out

set_option maxRecDepth 100000 in
theorem fx (av:Value) (w:World):Calls Tryz.prog 204 #[.map none,av] w (zR [] w):=by
 have hrg:=run_range_nilMap (P:=Tryz.prog) w 165 9 208 Tryz.underlying165
 have hnx:∀ ty,(Instr.next (.pointer (some ⟨w.heap.size,0,none⟩)) false ty).run Tryz.prog (w.alloc (.mapIter none 0 #[] 0))=_:=fun ty=>run_next_nilMap _ ty 0 0 #[]
 have HSRT0:Hid (∀ cap W,Calls Tryz.prog 210 #[.slice none 0 cap,.func (.func 138) #[] #[]] W fun e w'=>e=.returned (.tuple #[])∧w'=W):=fp
 have HB:=za (z8 (Below.refl w.heap.size w) (.mapIter none 0 #[] 0))
 go_enter Tryz.func204,Tryz.ntmps204
 go_wp2
 refine wp_loop_rounds 1 ?_
 rw [rounds_succ]
 go_wp2_with (go_at_call 210; (with_reducible refine (HSRT0.out _ _).mono ?_); rintro e w' ⟨rfl,rfl⟩)
 go_ret
 exact ⟨_,rfl,World.ownsRow_nil _ _ _ _,HB.out⟩

end Go.Proofs.YthmomkjingcbiaaGreatDoor
namespace Go.Proofs.YthmomkjingcbiaaGreatDoor
open Go.RowKit Go.Maps

theorem vL {n:List UInt8} (h:zf n=true):n.length≤12:=by
 unfold zf xF at h
 simp only [Bool.and_eq_true,decide_eq_true_eq] at h
 exact h.1.1.2.1
theorem qi {s:ByteArray} (h:zf s.data.toList=true):s.size≤1000:=by
 have:=vL h
 rw [zi] at this
 omega

theorem vm.goes {w w2 w':World} {B b:Nat} {p:Option Nat} {T:zp} {k:List UInt8} {l:zy} (h:vm w2 B p (yB T k (b,l)) w') (hb:Below w.heap.size w w2) (hbn:w.heap.size≤b):yh w B p T (yB (zh T) k l) w':=by
 obtain ⟨p',hd,hp,ht⟩:=h
 refine ⟨p',_,hd,VN T k (b,l),fun c e=>(hp c e).imp id (fun h=>Nat.le_trans hb.size h),fun x hx=>?_,(zc.of_below hb _).next ht (fun i _ h=>h.elim .inl (fun h=>.inr (.inl h)))⟩
 rcases yf.1 hx with rfl | ⟨hx,_⟩
 ·
  exact .inr hbn
 ·
  exact .inl ⟨x,hx,rfl⟩
theorem yh.set {w w1 w':World} {B:Nat} {p:Option Nat} {T:zp} (h:zF w B p T) (hb:Below w.heap.size w w1) {x:List UInt8×(Nat×zy)} (hx:x∈T) (f:zy→zy) (hs:zG w' x.2.1 (f x.2.2)) (ht:zc (fun i=>i=x.2.1) w1 w'):yh w B p T (Zb f (zh T) x.1) w':=by
 refine ⟨p,_,(h.later hb).turned hx f hs ht,VM f T x.1,(fun _ e=>.inl e),fun y hy=>.inl ?_,(zc.of_below hb _).next ht (fun i _ e=>.inr (.inr ⟨x,hx,e.symm⟩))⟩
 obtain ⟨q,hq,rfl⟩:=qA hy
 refine ⟨q,hq,?_⟩
 show q.2.1=(if q.1=x.1 then (q.2.1,f q.2.2) else q.2).1
 split <;> rfl
theorem at10 {T:zp} {k:List UInt8} (h:zE T k=true):∃ x∈T,x.1=k:=xf.1 h

set_option maxRecDepth 100000 in
theorem XL (B:Nat) (p:Option Nat) (T:zp) (g:ByteArray) (w:World) (h:zF w B p T) (hf:T.length≤6) (hg:g.size≤9223372036854775807) :
  Calls Tryz.prog 114 #[.pointer (some ⟨B,0,none⟩),.string g] w fun e w'=>e=.returned (.int .i64 (uM (zh T) g.data.toList))∧yh w B p T (qj (zh T) g.data.toList) w':=by
 have HI:=za h
 have HB0:Hid (Below w.heap.size w (w.alloc (.cells #[.string g] 9))):=z8 (Below.refl _ _) _
 have HN:=za (uq w.heap.size g _ hg (show (w.alloc (.cells #[.string g] 9)).cell? ⟨w.heap.size,0,none⟩=some (.string g) by rw [World.cell?_alloc_at _ _ _ _ rfl]; rfl))
 have HLK:Hid (∀ W,Below w.heap.size w W→(Instr.lookup 165 (.map p) (.string g) true).run Tryz.prog W=.ok (.tuple #[.map (qw T g.data.toList),.bool (zE T g.data.toList)]) W):=fun W hb=>look10 (h.later hb) g (Nat.le_trans hg (by decide))
 have HLE:Hid (∀ W ty,Below w.heap.size w W→(Builtin.len_ #[165] ty #[.map p]).run Tryz.prog W=.ok (.int .i64 T.length) W):=fun W ty hb=>len10 (h.later hb) ty
 have hmm:=@run_makeMap Tryz.prog
 unfold qj uM
 rw [qg,qf]
 have HPT:Hid (zf g.data.toList=true→∀ W,Below w.heap.size w W→Calls Tryz.prog 201 #[.pointer (some ⟨B,0,none⟩),.string g,.map (some W.heap.size)] (W.alloc (.map #[] 0)) fun e w'=>e=.returned (.tuple #[])∧yh w B p T (yB (zh T) g.data.toList []) w'):=fun hn W hb=>by
  have hb2:Below w.heap.size w (W.alloc (.map #[] 0)):=z7 hb (z8 (Below.refl _ _) _)
  refine (VL B W.heap.size p T [] g _ (h.later hb2) (Qh W) (fun x hx e=>?_) (fun e=>?_) (by omega) (qi hn)).mono fun e w' ⟨he,hp⟩=>⟨he,hp.goes hb2 hb.size⟩
  ·
   have:=h.slt x hx; have:=hb.size; omega
  ·
   have:=h.mlt _ e; have:=hb.size; omega
 clear h
 generalize qw T g.data.toList=o at *
 generalize zE T g.data.toList=b at *
 generalize zf g.data.toList=a at *
 generalize yB (zh T) g.data.toList []=S2 at *
 cases a with
 | false =>
  show Calls _ _ _ _ fun e w'=>e=.returned (.int .i64 10)∧yh w B p T (zh T) w'
  go_enter Tryz.func114,Tryz.ntmps114
  go_wp2_with fail
  with_reducible refine HN.out.mono ?_
  rintro e w1 ⟨rfl,hb⟩
  have HB:=za (z7 HB0.out hb)
  clear hb HN
  go_wp2
  go_ret
  exact ⟨rfl,yh.still HI.out HB.out⟩
 | true =>
  cases b with
  | true =>
   show Calls _ _ _ _ fun e w'=>e=.returned (.int .i64 9)∧yh w B p T (zh T) w'
   go_enter Tryz.func114,Tryz.ntmps114
   go_wp2_with fail
   with_reducible refine HN.out.mono ?_
   rintro e w1 ⟨rfl,hb⟩
   have hb1:=z7 HB0.out hb
   have HB:=za hb1
   have c1:=(HI.out.later hb1).cell
   have l1:=HLK.out _ hb1
   clear hb HN HLK hb1
   go_wp2
   go_ret
   exact ⟨rfl,yh.still HI.out HB.out⟩
  | false =>
   by_cases h6:6≤T.length
   ·
    have e7:(if true=true then if false=true then (9:Int) else if 6≤T.length then 7 else 0 else 10)=7:=by simp [h6]
    rw [e7,if_neg (by decide)]
    have z6:(T.length:Int) ≥ 6:=by omega
    have x6:decide ((T.length:Int) ≥ 6)=true:=decide_eq_true z6
    clear e7
    generalize hTL:T.length=tl at *
    have HTL:=za hTL
    clear hTL
    go_enter Tryz.func114,Tryz.ntmps114
    go_wp2_with fail
    with_reducible refine HN.out.mono ?_
    rintro e w1 ⟨rfl,hb⟩
    have hb1:=z7 HB0.out hb
    have HB:=za hb1
    have c1:=(HI.out.later hb1).cell
    have l1:=HLK.out _ hb1
    have l2:=fun ty=>HLE.out _ ty hb1
    clear hb HN HLK hb1 HLE
    go_wp2
    go_ret
    exact ⟨rfl,yh.still HI.out HB.out⟩
   ·
    have e0:(if true=true then if false=true then (9:Int) else if 6≤T.length then 7 else 0 else 10)=0:=by simp [h6]
    rw [e0,if_pos rfl]
    have z6:¬ (T.length:Int) ≥ 6:=by omega
    have x6:decide ((T.length:Int) ≥ 6)=false:=decide_eq_false z6
    have HP2:=za (HPT.out rfl)
    clear e0 HPT
    generalize hTL:T.length=tl at *
    have HTL:=za hTL
    clear hTL
    go_enter Tryz.func114,Tryz.ntmps114
    go_wp2_with fail
    with_reducible refine HN.out.mono ?_
    rintro e w1 ⟨rfl,hb⟩
    have hb1:=z7 HB0.out hb
    have c1:=(HI.out.later hb1).cell
    have l1:=HLK.out _ hb1
    have l2:=fun ty=>HLE.out _ ty hb1
    have HP3:=za (HP2.out _ hb1)
    clear hb HN HLK hb1 HLE HP2
    go_wp2_with fail
    with_reducible refine HP3.out.mono ?_
    rintro e w2 ⟨rfl,hg⟩
    have HG:=za hg
    clear hg HP3 c1 l1 l2
    go_wp2
    go_ret
    exact ⟨rfl,HG.out⟩


set_option maxRecDepth 100000 in
theorem XN (B:Nat) (p:Option Nat) (T:zp) (g n:ByteArray) (w:World) (h:zF w B p T) (hl:∀ x∈T,x.2.2.length≤1000) (hg:g.size≤9223372036854775807) (hn:n.size≤9223372036854775807) :
  Calls Tryz.prog 162 #[.pointer (some ⟨B,0,none⟩),.string g,.string n] w fun e w'=>e=.returned (.int .i64 (qK (zh T) g.data.toList n.data.toList))∧yh w B p T (ql (zh T) g.data.toList n.data.toList) w':=by
 have HI:=za h
 have hb0:Below w.heap.size w (w.alloc (.cells #[.string n] 9)):=z8 (Below.refl _ _) _
 have HFN:=za (QT B p T g w.heap.size n _ (h.later hb0) hg hn (show (w.alloc (.cells #[.string n] 9)).cell? ⟨w.heap.size,0,none⟩=some (.string n) by rw [World.cell?_alloc_at _ _ _ _ rfl]; rfl))
 have HB0:=za hb0
 unfold ql qK
 clear hb0
 by_cases hE:xn (zh T) g.data.toList [n.data.toList]=0
 ·
  obtain ⟨z1,z2,z3⟩:=jG hE
  rw [qg] at z3
  obtain ⟨x,hx,hxg⟩:=at10 z3
  have hsz:n.size≤1000:=qi (by simpa using z2)
  have hin:uC (zh T) g.data.toList n.data.toList=zE x.2.2 n.data.toList:=by
   unfold uC
   rw [← hxg,VO h.rise hx]
  have hblk:qw T g.data.toList=some x.2.1:=by rw [← hxg]; exact Y7 h.rise hx
  rw [hE,hblk] at HFN
  rw [if_pos rfl] at HFN
  rw [hE,if_pos rfl,hin]
  have HLK:Hid (∀ W,Below w.heap.size w W→(Instr.lookup 208 (.map (some x.2.1)) (.string n) false).run Tryz.prog W=.ok (.bool (zE x.2.2 n.data.toList)) W):=fun W hb=>has10 ((h.sets x hx).kept (hb.block _ (h.slt x hx))) n (Nat.le_trans hn (by decide))
  have HDO:Hid (∀ W,Below w.heap.size w W→Calls Tryz.prog 224 #[.map (some x.2.1),.string n] W fun e w'=>e=.returned (.tuple #[])∧yh w B p T (Zb (fun l=>yB l n.data.toList ()) (zh T) x.1) w'):=fun W hb =>
   (Zd x.2.1 x.2.2 n W ((h.sets x hx).kept (hb.block _ (h.slt x hx))) (hl x hx) hsz).mono fun e w' ⟨he,h2,h3⟩=>⟨he,yh.set h hb hx (fun l=>yB l n.data.toList ()) h2 h3⟩
  clear h hE z1 z2 z3 hin hblk hsz hl
  rw [hxg] at HDO
  clear hx hxg
  generalize Zb (fun l=>yB l n.data.toList ()) (zh T) g.data.toList=S2 at *
  generalize zE x.2.2 n.data.toList=r at *
  generalize x.2.1=b at *
  cases r with
  | true =>
   show Calls _ _ _ _ fun e w'=>e=.returned (.int .i64 9)∧yh w B p T (zh T) w'
   go_enter Tryz.func162,Tryz.ntmps162
   go_wp2_with fail
   with_reducible refine HFN.out.mono ?_
   rintro e w1 ⟨rfl,hb⟩
   have hb1:=z7 HB0.out hb
   have HB:=za hb1
   have l1:=HLK.out _ hb1
   clear hb hb1 HFN HLK HDO
   go_wp2
   go_ret
   exact ⟨rfl,yh.still HI.out HB.out⟩
  | false =>
   show Calls _ _ _ _ fun e w'=>e=.returned (.int .i64 0)∧yh w B p T S2 w'
   go_enter Tryz.func162,Tryz.ntmps162
   go_wp2_with fail
   with_reducible refine HFN.out.mono ?_
   rintro e w1 ⟨rfl,hb⟩
   have hb1:=z7 HB0.out hb
   have l1:=HLK.out _ hb1
   have HD1:=za (HDO.out _ hb1)
   clear hb hb1 HFN HLK HDO
   go_wp2_with fail
   with_reducible refine HD1.out.mono ?_
   rintro e w2 ⟨rfl,hg⟩
   have HG:=za hg
   clear hg HD1 l1
   go_wp2
   go_ret
   exact ⟨rfl,HG.out⟩
 ·
  rw [if_neg hE,if_neg hE]
  rw [if_neg hE] at HFN
  clear h
  generalize xn (zh T) g.data.toList [n.data.toList]=r at *
  go_enter Tryz.func162,Tryz.ntmps162
  go_wp2_with fail
  with_reducible refine HFN.out.mono ?_
  rintro e w1 ⟨rfl,hb⟩
  have HB:=za (z7 HB0.out hb)
  clear hb HFN
  go_wp2
  go_ret
  exact ⟨rfl,yh.still HI.out HB.out⟩


set_option maxRecDepth 100000 in
theorem Ui (B:Nat) (p:Option Nat) (T:zp) (w:World) (h:zF w B p T) (hf:T.length≤1000) :
  Calls Tryz.prog 123 #[.pointer (some ⟨B,0,none⟩)] w (zR (zb (zh T)) w):=by
 have HRS:Hid (Calls Tryz.prog 204 #[.map p,.slice none 0 0] w (zR (zb (zh T)) w)):=by
  rw [xP]
  cases p with
  | none =>
   have:=h.nil rfl
   subst this
   exact fx _ w
  | some m =>
   have:=qE m T (fun _=>true) (.slice none 0 0) w h.rise hf (h.map m rfl) (fun W' _ y _=>U3 _ W')
   rwa [List.filter_eq_self.2 (fun _ _=>rfl)] at this
 have hc:=h.cell
 clear h
 generalize zb (zh T)=ls at *
 go_enter Tryz.func123,Tryz.ntmps123
 go_wp2_with fail
 with_reducible refine HRS.out.mono ?_
 rintro e w2 ⟨v,rfl,hr,hb⟩
 have HN:Hid (zR ls w (.returned v) w2):=⟨v,rfl,hr,hb⟩
 obtain ⟨A,c,rfl⟩:∃ A c,v=.slice A ls.length c:=by
  rcases hr.2 with ⟨rfl,hz⟩ | ⟨g,cap,cur,rfl,_⟩
  ·
   exact ⟨none,0,by rw [hz]⟩
  ·
   exact ⟨_,cap,rfl⟩
 clear hr hb HRS hc
 generalize hn:ls.length=n at *
 clear hn
 go_wp2
 go_ret
 exact HN.out

theorem JF (T:zp) (n:List UInt8):zb (T.filter fun x=>zE x.2.2 n)=yX (zh T) n:=by
 unfold yX JB zh zb
 rw [List.filter_map,List.map_map]
 rfl
def Fq (B:Nat) (p:Option Nat) (n:ByteArray) (ls:List (List UInt8)) (w:World):Nat→Value→World→Prop
 | 3,v,_=>v=.map p
 | 4,v,_=>v=.string n
 | 5,v,W=>∃ C,v=.func (.func 247) #[] #[.pointer (some ⟨C,0,none⟩)]∧W.cell? ⟨C,0,none⟩=some (.string n)
 | 6,v,W=>∃ A C,v=.slice (some ⟨A,0,none⟩) 1 1∧W.cell? ⟨A,0,none⟩=some (.func (.func 247) #[] #[.pointer (some ⟨C,0,none⟩)])∧W.cell? ⟨C,0,none⟩=some (.string n)
 | 7,v,W=>zR ls w (.returned v) W
 | 8,v,W=>zR ls w (.returned v) W
 | _,v,_=>v=.pointer (some ⟨B,0,none⟩)
theorem zR.later {ls:List (List UInt8)} {w W W':World} {e:Ending} (h:zR ls w e W) (hb:Below W.heap.size W W'):zR ls w e W':=by
 obtain ⟨v,he,hr,hbw⟩:=h
 exact ⟨v,he,xd hr hb,z7 hbw hb⟩
theorem jq {B:Nat} {p:Option Nat} {n:ByteArray} {ls:List (List UInt8)} {w W W':World} (hb:Below W.heap.size W W') (j:Nat) (u:Value) (h:Fq B p n ls w j u W):Fq B p n ls w j u W':=by
 have key:∀ (C:Nat) (v:Value),W.cell? ⟨C,0,none⟩=some v→W'.cell? ⟨C,0,none⟩=some v:=fun C v hC=>(hb.cell (p:=⟨C,0,none⟩) (World.block_lt_of_cell? W _ hC)).trans hC
 match j,h with
 | 0,h=>exact h
 | 1,h=>exact h
 | 2,h=>exact h
 | 3,h=>exact h
 | 4,h=>exact h
 | 5,h=>obtain ⟨C,e,hC⟩:=h; exact ⟨C,e,key C _ hC⟩
 | 6,h=>obtain ⟨A,C,e,hA,hC⟩:=h; exact ⟨A,C,e,key A _ hA,key C _ hC⟩
 | 7,h=>exact zR.later h hb
 | 8,h=>exact zR.later h hb
 | _+9,h=>exact h

set_option maxRecDepth 100000 in
theorem ZQ (B:Nat) (p:Option Nat) (T:zp) (n:ByteArray) (w:World) (h:zF w B p T) (hf:T.length≤1000) (hn:n.size≤9223372036854775807) :
  Calls Tryz.prog 132 #[.pointer (some ⟨B,0,none⟩),.string n] w (zR (yX (zh T) n.data.toList) w):=by
 have HRS:Hid (∀ W A C,Below w.heap.size w W→W.cell? ⟨A,0,none⟩=some (.func (.func 247) #[] #[.pointer (some ⟨C,0,none⟩)])→W.cell? ⟨C,0,none⟩=some (.string n) →
   Calls Tryz.prog 204 #[.map p,.slice (some ⟨A,0,none⟩) 1 1] W (zR (yX (zh T) n.data.toList) W)):=fun W A C hb hA hC=>by
  have lA:A<W.heap.size:=World.block_lt_of_cell? W _ hA
  have lC:C<W.heap.size:=World.block_lt_of_cell? W _ hC
  rw [← JF]
  cases p with
  | none =>
   have:=h.nil rfl
   subst this
   exact fx _ W
  | some m =>
   exact qE m T (fun x=>zE x.2.2 n.data.toList) _ W h.rise hf ((h.later hb).map m rfl) (fun W' hb' y hy=>QV A C y.2.1 y.2.2 n W' (Nat.le_trans hn (by decide)) ((hb'.cell (p:=⟨A,0,none⟩) lA).trans hA) ((hb'.cell (p:=⟨C,0,none⟩) lC).trans hC) (((h.later hb).later hb').sets y hy))
 have HI:=za h
 have HFN:Hid (∀ W,Calls Tryz.prog 208 #[.string n] W fun e w'=>e=.returned (.func (.func 247) #[] #[.pointer (some ⟨W.heap.size,0,none⟩)])∧w'=W.alloc (.cells #[.string n] 9)):=fun W=>VZ n W
 clear h
 generalize yX (zh T) n.data.toList=ls at *
 go_enter Tryz.func132,Tryz.ntmps132
 go_wp2_with fail
 refine yZ (by kernel_rfl) (fun W=>Below w.heap.size w W) (Fq B p n ls w) ?F ?hF (by kernel_rfl) (by kernel_rfl) (zz (Below.refl _ _)) ?step ?fin
 case hF =>
  intro x
  simp only [List.map_cons,List.map_nil,xw,Act.put,List.setIfInBounds_toArray,List.set_cons_zero,List.set_cons_succ,Nat.zero_add,Nat.reduceAdd]
  exact rfl
 case step =>
  refine ⟨?_,?_,?_,?_,?_,?_,?_,?_,?_,trivial⟩
  all_goals intro x W hW hdep K hK
  ·
   clear hdep
   go_simp
   exact hK _ _ rfl hW (fun _ _ h=>h)
  ·
   have h0:x 0=_:=hdep 0 rfl
   clear hdep
   simp only [h0] at hK
   go_simp
   exact hK _ _ rfl hW (fun _ _ h=>h)
  ·
   have h1:x 1=_:=hdep 1 rfl
   clear hdep
   simp only [h1] at hK
   go_simp
   exact hK _ _ rfl hW (fun _ _ h=>h)
  ·
   have h2:x 2=_:=hdep 2 rfl
   have c:=(HI.out.later hW).cell
   clear hdep
   simp only [h2] at hK
   go_simp
   exact hK _ _ rfl hW (fun _ _ h=>h)
  ·
   clear hdep
   go_simp
   exact hK _ _ rfl hW (fun _ _ h=>h)
  ·
   have h4:x 4=_:=hdep 4 rfl
   have hc:=HFN.out W
   clear hdep
   simp only [h4] at hK
   go_simp
   refine hc.mono ?_
   rintro e W' ⟨rfl,rfl⟩
   have hb:Below W.heap.size W (W.alloc (.cells #[.string n] 9)):=z8 (Below.refl _ _) _
   exact hK _ _ ⟨W.heap.size,rfl,by rw [World.cell?_alloc_at _ _ _ _ rfl]; rfl⟩ (z7 hW hb) (jq hb)
  ·
   obtain ⟨C,h5,hC⟩:=(show Fq B p n ls w 5 (x 5) W from hdep 5 rfl)
   simp only [h5] at hK
   have lC:C<W.heap.size:=World.block_lt_of_cell? W _ hC
   clear hdep
   go_simp
   have hb:Below W.heap.size W (W.alloc (.cells #[.func (.func 247) #[] #[.pointer (some ⟨C,0,none⟩)]] 216)):=z8 (Below.refl _ _) _
   exact hK _ _ ⟨W.heap.size,C,rfl,by rw [World.cell?_alloc_at _ _ _ _ rfl]; rfl,(hb.cell (p:=⟨C,0,none⟩) lC).trans hC⟩ (z7 hW hb) (jq hb)
  ·
   have h3:x 3=_:=hdep 3 rfl
   obtain ⟨A,C,h6,hA,hC⟩:=(show Fq B p n ls w 6 (x 6) W from hdep 6 rfl)
   have hc:=HRS.out W A C hW hA hC
   simp only [h6] at hK
   clear hdep
   simp only [h3] at hK
   go_simp
   refine hc.mono ?_
   rintro e W' ⟨v,rfl,hr,hb⟩
   exact hK _ _ ⟨v,rfl,zv hr hW.size,z7 hW hb⟩ (z7 hW hb) (jq hb)
  ·
   have h7:zR ls w (.returned (x 7)) W:=hdep 7 rfl
   clear hdep
   go_simp
   exact hK _ _ h7 hW (fun _ _ h=>h)
 case fin =>
  intro x W hW hY
  have h8:zR ls w (.returned (x 8)) W:=hY 8 (by decide)
  obtain ⟨v,he,hr,hb⟩:=h8
  injection he with he
  have HN:Hid (zR ls w (.returned v) W):=⟨v,rfl,hr,hb⟩
  clear hY hW HI HFN HRS hr hb
  rw [he]
  go_wp2
  go_ret
  exact HN.out

def qc (f:zy→zy) (ls:List (List UInt8)) (T:zp):zp:=T.map fun x=>if x.1∈ls then (x.1,(x.2.1,f x.2.2)) else x
theorem Jl (f:zy→zy) (T:zp):qc f [] T=T:=by
 unfold qc
 simp
theorem Xf {f:zy→zy} {ls:List (List UInt8)} {T:zp} {x:List UInt8×(Nat×zy)} (hx:x∈T) (hn:x.1∉ls):x∈qc f ls T:=List.mem_map.2 ⟨x,hx,if_neg hn⟩
theorem Jm {f:zy→zy} {ls:List (List UInt8)} {T:zp} {y:List UInt8×(Nat×zy)} (hy:y∈qc f ls T):∃ x∈T,x.2.1=y.2.1:=by
 obtain ⟨x,hx,rfl⟩:=List.mem_map.1 hy
 refine ⟨x,hx,?_⟩
 split <;> rfl
theorem Qc {f:zy→zy} {ls:List (List UInt8)} {T:zp} {k:List UInt8} (hk:k∉ls):Zb (fun v=>(v.1,f v.2)) (qc f ls T) k=qc f (ls++[k]) T:=by
 unfold qc Zb
 rw [List.map_map]
 refine List.map_congr_left fun x _=>?_
 by_cases e:x.1∈ls
 ·
  have hne:x.1≠k:=fun e'=>hk (e' ▸ e)
  simp [e,hne]
 ·
  by_cases e':x.1=k
  ·
   subst e'
   simp [e]
  ·
   simp [e,e']
theorem VA (f:zy→zy) (ls:List (List UInt8)) (T:zp):zh (qc f ls T)=(zh T).map fun p=>if p.1∈ls then (p.1,f p.2) else p:=by
 unfold zh qc
 rw [List.map_map,List.map_map]
 refine List.map_congr_left fun x _=>?_
 by_cases e:x.1∈ls <;> simp [e]
theorem FH {S:zj} (hr:zB S) (n:List UInt8) {p:List UInt8×zy} (hp:p∈S):p.1∈yX S n↔zE p.2 n=true:=by
 rw [uA hr]
 unfold uC
 rw [qI hr hp]
theorem VF {T:zp} (hr:zB (zh T)) (n:List UInt8):zh (qc (fun l=>vR l n) (yX (zh T) n) T)=uK (zh T) n:=by
 rw [VA]
 unfold uK
 refine List.map_congr_left fun p hp=>?_
 by_cases e:p.1∈yX (zh T) n
 ·
  rw [if_pos e]
 ·
  rw [if_neg e,fX]
  cases h:zE p.2 n
  ·
   rfl
  ·
   exact absurd ((FH hr n hp).2 h) e
theorem Qm {l:List (List UInt8)} (h:vl l) {k:Nat} (hk:k<l.length):l[k]∉l.take k:=by
 intro hm
 obtain ⟨j,hj,e⟩:=List.getElem_of_mem hm
 rw [List.getElem_take] at e
 have hjk:j<k:=by simp at hj; omega
 have:=List.pairwise_iff_getElem.1 h j k (by omega) hk hjk
 rw [e,zn] at this
 cases this
theorem row10 {w:World} {base:Nat} {v:Value} {ls:List (List UInt8)} (h:w.ownsRow base 9 1 v ls.length (ls.map encStr)) :
  (v=.slice none 0 0∧ls=[])∨∃ g cap cur,v=.slice (some ⟨g,0,none⟩) ls.length cap∧base≤g∧w.heap[g]? = some (.cells cur 9 (0,0))∧∀ j (h:j<ls.length),cur[j]? = some (.string (zY ls[j])):=by
 rcases h.2 with ⟨rfl,hz⟩ | ⟨g,cap,cur,rfl,hb,hg,r1,r2,r3,r4⟩
 ·
  exact .inl ⟨rfl,List.eq_nil_of_length_eq_zero hz⟩
 ·
  refine .inr ⟨g,cap,cur,rfl,hb,hg,fun j hj=>?_⟩
  have h2:(List.take (ls.length * 1) cur.toList)[j]? = some (.string (zY ls[j])):=by rw [r4]; simp [hj,encStr,zY]
  rw [List.getElem?_take,if_pos (by omega)] at h2
  simpa using h2
theorem Ym {w wr:World} {base:Nat} {v:Value} {ls:List (List UInt8)} {S:Nat→Prop} (h:w.ownsRow base 9 1 v ls.length (ls.map encStr)) (ht:zc S w wr) (hS:∀ i c T fr,w.heap[i]? = some (.cells c T fr)→T=9→¬ S i) {k:Nat} (hk:k<ls.length) :
  ∃ g cap,v=.slice (some ⟨g,0,none⟩) ls.length cap∧wr.cell? ⟨g,k,none⟩=some (.string (zY ls[k])):=by
 rcases row10 h with ⟨_,rfl⟩ | ⟨g,cap,cur,rfl,_,hg,hc⟩
 ·
  exact absurd hk (Nat.not_lt_zero _)
 ·
  refine ⟨g,cap,rfl,?_⟩
  have h1:wr.heap[g]? = some (.cells cur 9 (0,0)):=(ht.block g (Array.getElem?_eq_some_iff.1 hg).1 (hS g _ _ _ hg rfl)).trans hg
  have h2:=hc k hk
  simp [World.cell?,h1,h2]
theorem ve {w:World} {base:Nat} {v:Value} {ls:List (List UInt8)} (h:w.ownsRow base 9 1 v ls.length (ls.map encStr)):∃ A c,v=.slice A ls.length c:=by
 rcases row10 h with ⟨rfl,rfl⟩ | ⟨g,cap,cur,rfl,_⟩
 ·
  exact ⟨none,0,rfl⟩
 ·
  exact ⟨_,cap,rfl⟩
theorem zF.step {w w':World} {B:Nat} {p:Option Nat} {T:zp} {f:zy→zy} {ls:List (List UInt8)} (h:zF w B p (qc f ls T)) {x:List UInt8×(Nat×zy)} (hx:x∈T) (hn:x.1∉ls) (hs:zG w' x.2.1 (f x.2.2)) (ht:zc (fun i=>i=x.2.1) w w'):zF w' B p (qc f (ls++[x.1]) T):=by
 have:=h.turned (Xf hx hn) f hs ht
 rwa [Qc hn] at this

set_option maxRecDepth 100000 in
theorem Zf (B:Nat) (p:Option Nat) (T:zp) (n:ByteArray) (w:World) (h:zF w B p T) (hf:T.length≤1000) (hnm:∀ x∈T,x.1.length≤1000) (hn:n.size≤9223372036854775807) :
  Calls Tryz.prog 121 #[.pointer (some ⟨B,0,none⟩),.string n] w fun e w'=>e=.returned (.int .i64 ((yX (zh T) n.data.toList).length:Nat))∧yh w B p T (uK (zh T) n.data.toList) w':=by
 have HOF:=za (ZQ B p T n w h hf hn)
 have hrs:zB (zh T):=yQ h.rise (xP T)
 have HRM:=za (VF hrs n.data.toList)
 have HNZ:Hid (n.size≤maxLen):=Nat.le_trans hn (by decide)
 have HI:=za h
 have HTL0:Hid (∀ g∈yX (zh T) n.data.toList,∃ x∈T,x.1=g):=fun g hg=>by
  have:=jX hg
  rw [xP] at this
  obtain ⟨x,hx,e⟩:=List.mem_map.1 this
  exact ⟨x,hx,e⟩
 have HRL:Hid (vl (yX (zh T) n.data.toList)):=uj hrs _
 obtain ⟨l,hl⟩:∃ l,yX (zh T) n.data.toList=l:=⟨_,rfl⟩
 rw [hl] at HOF HRM HTL0 HRL ⊢
 have HL:=za hl
 have HTL:Hid (∀ k (h:k<l.length),∃ x∈T,x.1=l[k]):=fun k hk=>HTL0.out _ (List.getElem_mem hk)
 have HLN:Hid (∀ g∈l,g.length≤maxLen):=fun g hg=>by
  obtain ⟨x,hx,e⟩:=HTL0.out g hg
  rw [← e]
  exact Nat.le_trans (hnm x hx) (by decide)
 have HB1:=za (Below.refl w.heap.size w)
 clear h hrs hl HTL0 hn hnm
 go_enter Tryz.func121,Tryz.ntmps121
 go_wp2_with fail
 with_reducible refine HOF.out.mono ?_
 rintro e w1 ⟨v,rfl,hr,hb⟩
 have HRO:=za hr
 have HB2:=za (z7 HB1.out hb)
 have HI2:=za (HI.out.later (z7 HB1.out hb))
 obtain ⟨A,c,rfl⟩:=ve hr
 have hcl:l.length≤T.length:=by rw [← HL.out]; exact Nat.le_trans (JG _ _) (Nat.le_of_eq (qf T))
 obtain ⟨len,hlen⟩:∃ len,len=l.length:=⟨_,rfl⟩
 rw [← hlen] at hcl ⊢
 have HLEN:=za hlen
 have hlz:len≤1000:=by omega
 have HCL:=za hcl
 clear hr hb hlen hcl
 clear HOF
 go_wp2
 go_loopg [13] len (fun gg s13 wr=>∃ k:Nat,k≤len∧len - k≤gg∧s13=.int .i64 k∧Hid (zF wr B p (qc (fun l=>vR l n.data.toList) (l.take k) T))∧Hid (zc (fun i=>∃ x∈T,x.2.1=i) w1 wr))
 case atStart=>exact ⟨0,Nat.zero_le _,by omega,rfl,(by show zF _ _ _ _; rw [List.take_zero,Jl]; exact HI2.out),zc.refl _ _⟩
 case round =>
  obtain ⟨k,hk,hg,rfl,HG,HT⟩:=hrel
  by_cases hlt:k<len
  ·
   have hltz:(k:Int)<(len:Int):=by omega
   have hkl:k<l.length:=HLEN.out ▸ hlt
   obtain ⟨x,hx,hxn⟩:=HTL.out k hkl
   have hnot:l[k]∉l.take k:=Qm HRL.out hkl
   have hxk:x∈qc (fun l=>vR l n.data.toList) (l.take k) T:=Xf hx (by rw [hxn]; exact hnot)
   obtain ⟨g,cap,e2,x0⟩:=Ym HRO.out HT.out (fun i c0 T0 fr hi _ hS=>by obtain ⟨y,hy,e⟩:=hS; exact zO (HI2.out.sets y hy) hi e) hkl
   injection e2 with e2 e2n e2c
   subst e2
   clear e2n e2c
   have c0:=HG.out.cell
   have htk:l.take (k+1)=l.take k++[x.1]:=by rw [List.take_succ_eq_append_getElem hkl,hxn]
   have l1:=look101 HG.out (zY l[k]) (by rw [ud]; exact HLN.out _ (List.getElem_mem hkl))
   rw [zU,← hxn,Y7 HG.out.rise hxk] at l1
   rw [← hxn] at x0
   obtain ⟨w5,hrun,hs5,ht5⟩:=drop10 (HG.out.sets x hxk) n HNZ.out 0
   have ht5':zc (fun i=>i=x.2.1) wr w5:=(zc.refl _ wr).grown ht5.grown (fun k hk _=>by cases hk; rfl)
   have HG2:Hid (zF w5 B p (qc (fun l=>vR l n.data.toList) (l.take (k+1)) T)):=by
    show zF _ _ _ _
    rw [htk]
    exact HG.out.step hx (by rw [hxn]; exact hnot) hs5 ht5'
   have HT2:Hid (zc (fun i=>∃ x∈T,x.2.1=i) w1 w5):=HT.out.next ht5' (fun i _ e=>⟨x,hx,e.symm⟩)
   clear hs5 ht5 ht5' htk hxk hx hnot HG HT hxn hkl
   generalize zY x.1=sx at *
   generalize x.2.1=bx at *
   go_wp2
   go_roundg (len - (k+1))
   case measure=>omega
   case rel=>exact ⟨k+1,by omega,by omega,by go_num,HG2,HT2⟩
  ·
   have hltz:¬ (k:Int)<(len:Int):=by omega
   obtain rfl:k=len:=by omega
   have hgd:=HG.out
   rw [List.take_of_length_le (by have:=HLEN.out; omega)] at hgd
   have HF:Hid (yh w B p T (uK (zh T) n.data.toList) wr):=⟨p,_,hgd,HRM.out,(fun _ e=>.inl e),fun y hy=>.inl (by obtain ⟨x,hx,e⟩:=Jm hy; exact ⟨x,hx,e⟩),(zc.of_below HB2.out _).next HT.out (fun i _ e=>.inr (.inr e))⟩
   clear hgd HG HT
   go_wp2
   go_ret
   exact ⟨by rw [← HLEN.out]; rfl,HF.out⟩


def New10 (w W:World) (B:Nat) (p:Option Nat) (T:zp):Prop:=zF W B p T∧w.heap.size≤B∧(∀ b,p=some b→w.heap.size≤b)∧∀ x∈T,w.heap.size≤x.2.1
theorem vm.new {w W W':World} {B b:Nat} {p:Option Nat} {T:zp} {k:List UInt8} {l:zy} (h:vm W B p (yB T k (b,l)) W') (hn:New10 w W B p T) (hw:w.heap.size≤W.heap.size) (hb:w.heap.size≤b):∃ p',New10 w W' B p' (yB T k (b,l))∧zc (fun i=>i=B∨p=some i) W W':=by
 obtain ⟨p',hd,hp,ht⟩:=h
 obtain ⟨_,h1,h2,h3⟩:=hn
 refine ⟨p',⟨hd,h1,fun c e=>?_,fun x hx=>?_⟩,ht⟩
 ·
  rcases hp c e with e | e
  ·
   exact h2 c e
  ·
   exact Nat.le_trans hw e
 ·
  rcases yf.1 hx with rfl | ⟨hx,_⟩
  ·
   exact hb
  ·
   exact h3 x hx

end Go.Proofs.YthmomkjingcbiaaGreatDoor
namespace Go.Proofs.YthmomkjingcbiaaGreatDoor
open Go.ChangeShapes Go.WideShapes Go.ChangeAt Go.RowKit Go.Deep

section
variable {H:Type} {enc:TypeId×Value→H} {W:World} {base:Nat} {sp:Nat→Bool} {hd:Bool} {fuel:Nat}
end
end Go.Proofs.YthmomkjingcbiaaGreatDoor
namespace Go.Proofs.YthmomkjingcbiaaGreatDoor
open Go.RowKit Go.Maps

def vV (W w':World):Prop:=∀ (k:Nat) (c:Array Value) (T:TypeId) (fr:Nat×Nat),W.heap[k]? = some (.cells c T fr)→T≠167→w'.heap[k]? = some (.cells c T fr)
theorem vV.of_below {W w':World} (hb:Below W.heap.size W w'):vV W w':=fun k _ _ _ h _=>(hb.block k (Array.getElem?_eq_some_iff.1 h).1).trans h
theorem vV.trans {a b c:World} (h:vV a b) (k:vV b c):vV a c:=fun i x T fr hi hT=>k i x T fr (h i x T fr hi hT) hT
theorem yh.keeps {W w':World} {B:Nat} {p:Option Nat} {T:zp} {S':zj} (hd:zF W B p T) (hg:yh W B p T S' w'):vV W w':=by
 obtain ⟨_,_,_,_,_,_,ht⟩:=hg
 intro k c T fr hk hT
 refine (ht.block k (Array.getElem?_eq_some_iff.1 hk).1 ?_).trans hk
 rintro (rfl | e | ⟨x,hx,rfl⟩)
 ·
  rw [hd.blk] at hk
  injection hk with hk
  injection hk with _ h
  exact hT h.symm
 ·
  exact zO (hd.map k e) hk rfl
 ·
  exact zO (hd.sets x hx) hk rfl

section
variable {w0 W W':World} {B k:Nat} {S:zj}

end

def NmR (w:World) (v:Value) (N:List (List UInt8)):Prop:=w.ownsRow 0 9 1 v N.length (N.map encStr)
theorem fB {w w':World} {b:Nat} {e size n:Nat} {v:Value} {xs:List Value} (h:w.ownsRow b e size v n xs) (hk:vV w w') (he:e≠167):w'.ownsRow b e size v n xs:=by
 refine ⟨h.1,?_⟩
 rcases h.2 with hn | ⟨g,cap,cur,e1,h0,hg,hr⟩
 ·
  exact .inl hn
 ·
  exact .inr ⟨g,cap,cur,e1,h0,hk g _ _ _ hg he,hr⟩
section
variable {w w':World} {v:Value} {N:List (List UInt8)} {M:List uu}
theorem NmR.keeps (h:NmR w v N) (hk:vV w w'):NmR w' v N:=fB h hk (by decide)
theorem NmR.later (h:NmR w v N) (hb:Below w.heap.size w w'):NmR w' v N:=xd h hb
theorem NmR.of {b:Nat} (h:w.ownsRow b 9 1 v N.length (N.map encStr)):NmR w v N:=zv h (Nat.zero_le _)
theorem NmR.nil (w:World):NmR w (.slice none 0 0) []:=World.ownsRow_nil _ _ _ _
theorem NmR.at_ (h:NmR w v N) {k:Nat} (hk:k<N.length):∃ g cap,v=.slice (some ⟨g,0,none⟩) N.length cap∧w.cell? ⟨g,k,none⟩=some (.string (zY N[k])) :=
 Ym h (zc.refl (fun _=>False) w) (fun _ _ _ _ _ _ f=>f) hk
theorem NmR.shape (h:NmR w v N):∃ A c,v=.slice A N.length c:=ve h
theorem NmR.src (h:NmR w v N):Src Tryz.prog 1 45 v N.length (N.map encStr) w:=by
 rcases h.2 with ⟨rfl,hz⟩ | ⟨g,cap,cur,rfl,hb,hg,r1,r2,r3,r4⟩
 ·
  have:N=[]:=List.eq_nil_of_length_eq_zero hz
  subst this
  exact Src.ofNil w Tryz.underlying45 0
 ·
  refine Src.ofSlice w Tryz.underlying45 _ _ _ _ h.1 (fun j u hu=>?_) (fun u hu=>by obtain ⟨x,_,rfl⟩:=List.mem_map.1 hu; rfl)
  have hj:j<N.length:=by have:=(List.getElem?_eq_some_iff.1 hu).1; simpa using this
  have h2:(List.take (N.length * 1) cur.toList)[j]? = some u:=by rw [r4]; exact hu
  rw [List.getElem?_take,if_pos (by omega)] at h2
  rw [Addr.add_lit,Nat.zero_add]
  simpa [World.cell?,hg] using h2
end

def jt (W:World) (b:Nat) (v1 v2:Value):Prop:=W.heap[b]? = some (.cells #[v1,v2] 178 (0,0))
section
variable {W W':World} {b:Nat} {v1 v2:Value}
theorem jt.c0 (h:jt W b v1 v2):W.cell? ⟨b,0,none⟩=some v1:=by simp [World.cell?,show W.heap[b]? = _ from h]
theorem jt.c1 (h:jt W b v1 v2):W.cell? ⟨b,1,none⟩=some v2:=by simp [World.cell?,show W.heap[b]? = _ from h]
theorem jt.f0 (h:jt W b v1 v2):W.frozen? ⟨b,0,none⟩=false:=by simp [World.frozen?,show W.heap[b]? = _ from h]
theorem jt.lt (h:jt W b v1 v2):b<W.heap.size:=(Array.getElem?_eq_some_iff.1 h).1
theorem jt.later (h:jt W b v1 v2) (hb:Below W.heap.size W W'):jt W' b v1 v2:=(hb.block b h.lt).trans h
theorem jt.turns {S:Nat→Prop} (h:jt W b v1 v2) (ht:zc S W W') (hS:¬ S b):jt W' b v1 v2:=(ht.block b h.lt hS).trans h
end
theorem app10 {w1 wr w2:World} {e:TypeId} {size n:Nat} {v:Value} {xs:List Value} {o:Obj} (hb:Below w1.heap.size w1 wr) (hu:wr.ownsRow w1.heap.size e size v n xs) (hg:(wr.alloc o).grownBy w2 v.ownBlock):Below w1.heap.size w1 w2 :=
 (z7 hb (z8 (Below.refl _ _) _)).grown hg (by have:=hb.size; simp; omega) (fun j hj=>(hu.lt j hj).1)
theorem YS (s:ByteArray):Proofs.encStr s.data.toList=.string s:=by
 show Value.string ⟨s.data.toList.toArray⟩=_
 simp

abbrev TG:TypeId:=178

def Vm (W w':World):Prop:=∀ (k:Nat) (c:Array Value) (T:TypeId) (fr:Nat×Nat),W.heap[k]? = some (.cells c T fr)→T≠TG→w'.heap[k]? = some (.cells c T fr)
theorem Vm.trans {a b c:World} (h:Vm a b) (k:Vm b c):Vm a c:=fun i x T fr hi hT=>k i x T fr (h i x T fr hi hT) hT
theorem Vm.of_below {W w':World} (hb:Below W.heap.size W w'):Vm W w':=fun k _ _ _ h _=>(hb.block k (Array.getElem?_eq_some_iff.1 h).1).trans h
theorem jt.keep {W:World} {b:Nat} {v1 v2:Value} (h:jt W b v1 v2) (i:Nat) (x:Value):Vm W (W.setCell ⟨b,i,none⟩ x):=fun k c T fr hk hT=>by
 refine (Below.heap_setCell _ _ _ _ (fun e=>hT ?_)).trans hk
 have e':k=b:=e
 rw [e',show W.heap[b]? = _ from h] at hk
 injection hk with hk
 injection hk with _ hk
 exact hk.symm
theorem jt.set0 {W:World} {b:Nat} {v1 v2:Value} (h:jt W b v1 v2) (x:Value):jt (W.setCell ⟨b,0,none⟩ x) b x v2:=by
 have h':W.heap[b]? = some (.cells #[v1,v2] TG (0,0)):=h
 have hl:=h.lt
 have:=h'
 rw [Array.getElem?_eq_getElem hl] at this
 injection this with this
 show (W.setCell ⟨b,0,none⟩ x).heap[b]? = _
 simp [World.setCell,hl,Array.getElem_modify,this]
theorem jt.set1 {W:World} {b:Nat} {v1 v2:Value} (h:jt W b v1 v2) (x:Value):jt (W.setCell ⟨b,1,none⟩ x) b v1 x:=by
 have h':W.heap[b]? = some (.cells #[v1,v2] TG (0,0)):=h
 have hl:=h.lt
 have:=h'
 rw [Array.getElem?_eq_getElem hl] at this
 injection this with this
 show (W.setCell ⟨b,1,none⟩ x).heap[b]? = _
 simp [World.setCell,hl,Array.getElem_modify,this]
theorem jt.other {W:World} {b c i:Nat} {v1 v2:Value} (h:jt W b v1 v2) (hne:b≠c) (x:Value):jt (W.setCell ⟨c,i,none⟩ x) b v1 v2:=(Below.heap_setCell _ _ _ _ hne).trans h
theorem Below.cellG {w wr:World} {b i:Nat} (hb:Below w.heap.size w wr) (h:w.heap.size≤b) (x:Value):Below w.heap.size w (wr.setCell ⟨b,i,none⟩ x):=hb.setCell (p:=⟨b,i,none⟩) h x
theorem fin2 {w wr:World} {b:Nat} {u1 u2:Value} (hb:Below w.heap.size w wr) (hr:jt wr b u1 u2) (h:w.heap.size≤b) (x y:Value) :
  jt ((wr.setCell ⟨b,0,none⟩ x).setCell ⟨b,1,none⟩ y) b x y∧Below w.heap.size w ((wr.setCell ⟨b,0,none⟩ x).setCell ⟨b,1,none⟩ y)∧Vm wr ((wr.setCell ⟨b,0,none⟩ x).setCell ⟨b,1,none⟩ y) :=
 ⟨(hr.set0 x).set1 y,Below.cellG (Below.cellG hb h x) h y,(hr.keep 0 x).trans ((hr.set0 x).keep 1 y)⟩



end Go.Proofs.YthmomkjingcbiaaGreatDoor
