/-
  The texts that the laws of this seat share, part 8: what the code and the document's own answers tell, walked function by function.
  Conditions: each theorem's own.
-/
import Derived.Maps.RangeWalk
import Derived.LoopN
import Derived.Maps.AppendAt
import Derived.Test.YthmomkjingcbiaaGreatDoorMigBBG
set_option maxHeartbeats 16000000
namespace Go.Proofs.YthmomkjingcbiaaGreatDoor
open Go.Maps

abbrev yB (V:Type):=List (List UInt8×V)
section
variable {V:Type}
def ye (L:yB V):Prop:=L.Pairwise (fun p q=>bytesBefore p.1 q.1=true)
def FC (e:V→DataW Unit) (p:List UInt8×V):Lit×DataW Unit:=(.string p.1,e p.2)
def vY (e:V→DataW Unit) (L:yB V):DataW Unit:=.map (L.map (FC e))
def Uk (x:List UInt8×V):yB V→yB V
 | []=>[x]
 | y::r=>if bytesBefore x.1 y.1 then x::y::r else y::Uk x r
def V8 (L:yB V) (k:List UInt8):yB V:=L.filter (fun p=>!(p.1 == k))
def xA (L:yB V) (k:List UInt8) (v:V):yB V:=Uk (k,v) (V8 L k)
def yW (L:yB V) (k:List UInt8):Bool:=L.any (fun p=>p.1 == k)
def qz (L:yB V) (k:List UInt8):Option V:=(L.find? (fun p=>p.1 == k)).map (·.2)
def ze (L:yB V):List (List UInt8):=L.map (·.1)
def Xq (f:V→V) (L:yB V) (k:List UInt8):yB V:=L.map fun p=>if p.1=k then (p.1,f p.2) else p

theorem Jw (e:V→DataW Unit) (x:List UInt8×V):∀ L:yB V,(Uk x L).map (FC e)=DataW.insert (FC e x) (L.map (FC e))
 | []=>rfl
 | y::r=>by
  simp only [Uk,List.map_cons,DataW.insert]
  have h:(FC e x).1.before (FC e y).1=bytesBefore x.1 y.1:=rfl
  rw [h]
  cases bytesBefore x.1 y.1
  ·
   simp [Jw e x r]
  ·
   simp
theorem Vb (e:V→DataW Unit) (k:List UInt8):∀ L:yB V,(V8 L k).map (FC e)=(L.map (FC e)).filter (fun p=>!p.1.sameKey (.string k))
 | []=>rfl
 | y::r=>by
  have ih:=Vb e k r
  unfold V8 at ih ⊢
  have h:(FC e y).1.sameKey (.string k)=(y.1 == k):=rfl
  simp only [List.filter_cons,List.map_cons,h]
  cases (y.1 == k) <;> simp [ih]
theorem V9 (e:V→DataW Unit) (L:yB V) (k:List UInt8) (v:V):(vY e L).put (.string k) (e v)=vY e (xA L k v):=by
 unfold vY xA
 rw [Jw,Vb]; rfl
theorem datV_del (e:V→DataW Unit) (L:yB V) (k:List UInt8):(vY e L).del (.string k)=vY e (V8 L k):=by
 unfold vY
 rw [Vb]; rfl
theorem Va (e:V→DataW Unit) (L:yB V) (k:List UInt8):Maps.has (vY e L) (.string k)=yW L k:=by
 unfold vY yW
 rw [Maps.has_eq,List.any_map]; rfl
theorem datV_at (e:V→DataW Unit) (L:yB V) (k:List UInt8) (z:DataW Unit):(vY e L).atKey (.string k) z=match qz L k with | some v=>e v | none=>z:=by
 unfold vY qz
 unfold DataW.atKey
 simp only [List.find?_map]
 have h:((fun p:Lit×DataW Unit=>p.1.sameKey (.string k)) ∘ FC e)=(fun p:List UInt8×V=>p.1 == k):=rfl
 rw [h]
 cases L.find? (fun p=>p.1 == k) <;> rfl
theorem uu (e:V→DataW Unit) (L:yB V):Maps.size (vY e L)=L.length:=by simp [vY,Maps.size]
theorem datV_upd {e:V→DataW Unit} {f:V→V} (hf:∀ v,e (f v)=e v) (L:yB V) (k:List UInt8):vY e (Xq f L k)=vY e L:=by
 unfold vY Xq
 rw [List.map_map]
 congr 1
 refine List.map_congr_left fun p _=>?_
 show FC e (if p.1=k then (p.1,f p.2) else p)=FC e p
 split
 ·
  unfold FC; rw [hf]
 ·
  rfl

theorem XM {x y:List UInt8×V}:∀ {L:yB V},y∈Uk x L↔y=x∨y∈L
 | []=>by simp [Uk]
 | z::r=>by
  unfold Uk
  split
  ·
   simp
  ·
   simp only [List.mem_cons,XM (L:=r)]
   constructor
   ·
    rintro (h | h | h)
    ·
     exact .inr (.inl h)
    ·
     exact .inl h
    ·
     exact .inr (.inr h)
   ·
    rintro (h | h | h)
    ·
     exact .inr (.inl h)
    ·
     exact .inl h
    ·
     exact .inr (.inr h)
theorem qw {L:yB V} {k:List UInt8} {p:List UInt8×V}:p∈V8 L k↔p∈L∧p.1≠k:=by
 unfold V8; simp
theorem yG {L:yB V} {k:List UInt8} {v:V} {p:List UInt8×V}:p∈xA L k v↔p=(k,v)∨(p∈L∧p.1≠k):=by
 unfold xA
 rw [XM,qw]
theorem Zv {L:yB V} (h:ye L) (k:List UInt8):ye (V8 L k):=h.filter _
theorem VO {x:List UInt8×V}:∀ {L:yB V},ye L→(∀ p∈L,p.1≠x.1)→ye (Uk x L)
 | [],_,_=>by simp [Uk,ye]
 | y::r,h,hn=>by
  unfold Uk
  obtain ⟨h1,h2⟩:=List.pairwise_cons.1 h
  split
  ·
   rename_i hb
   exact List.pairwise_cons.2 ⟨fun p hp=>by
    rcases List.mem_cons.1 hp with rfl | hp
    ·
     exact hb
    ·
     exact WideShapes.bytes_trans _ _ _ hb (h1 p hp),h⟩
  ·
   rename_i hb
   have hyx:bytesBefore y.1 x.1=true:=by
    rcases WideAt.bytes_total y.1 x.1 (hn y (by simp)) with h' | h'
    ·
     exact h'
    ·
     exact absurd h' hb
   exact List.pairwise_cons.2 ⟨fun p hp=>by
    rcases XM.1 hp with rfl | hp
    ·
     exact hyx
    ·
     exact h1 p hp,VO h2 (fun p hp=>hn p (by simp [hp]))⟩
theorem vg {L:yB V} (h:ye L) (k:List UInt8) (v:V):ye (xA L k v) :=
 VO (Zv h k) (fun _ hp=>(qw.1 hp).2)
theorem jY (f:V→V) (L:yB V) (k:List UInt8):ze (Xq f L k)=ze L:=by
 unfold ze Xq
 rw [List.map_map]
 refine List.map_congr_left fun p _=>?_
 show (if p.1=k then (p.1,f p.2) else p).1=p.1
 split <;> rfl
theorem qW {W:Type} {L:yB V} {L':yB W} (h:ye L) (e:ze L'=ze L):ye L':=by
 have h1:(ze L).Pairwise (fun a b=>bytesBefore a b=true):=List.pairwise_map.2 h
 rw [← e] at h1
 exact List.pairwise_map.1 h1
theorem Zu {L:yB V} (h:ye L) (f:V→V) (k:List UInt8):ye (Xq f L k):=qW h (jY f L k)

theorem vy {L:yB V} {k:List UInt8}:yW L k=true↔∃ p∈L,p.1=k:=by simp [yW]
theorem xy {L:yB V} {k:List UInt8}:yW L k=true↔k∈ze L:=by
 rw [vy]
 simp [ze]
theorem qx {L:yB V} {k:List UInt8}:yW L k=false↔k∉ze L:=by
 rw [← xy]; simp
theorem QO {L:yB V} {k:List UInt8} (h:yW L k=false):V8 L k=L:=by
 unfold V8; rw [List.filter_eq_self]
 intro p hp
 cases e:(p.1 == k)
 ·
  rfl
 ·
  have:yW L k=true:=vy.2 ⟨p,hp,by simpa using e⟩
  rw [h] at this; cases this
theorem ZL (x:List UInt8×V):∀ L:yB V,(Uk x L).length=L.length+1
 | []=>rfl
 | y::r=>by unfold Uk; split <;> simp [ZL x r]
theorem delV_le (L:yB V) (k:List UInt8):(V8 L k).length≤L.length:=List.length_filter_le _ _
theorem putV_le (L:yB V) (k:List UInt8) (v:V):(xA L k v).length≤L.length+1:=by
 unfold xA
 rw [ZL]
 have:=delV_le L k
 omega
theorem yH {L:yB V} (hr:ye L) {k:List UInt8} {v:V}:qz L k=some v↔(k,v)∈L:=by
 induction L with
 | nil=>simp [qz]
 | cons y r ih =>
  obtain ⟨h1,h2⟩:=List.pairwise_cons.1 hr
  unfold qz at ih ⊢
  rw [List.find?_cons]
  by_cases e:y.1=k
  ·
   have e':(y.1 == k)=true:=by simpa using e
   simp only [e',Option.map_some,Option.some.injEq,List.mem_cons]
   constructor
   ·
    intro h; left; rw [← h,← e]
   ·
    rintro (h | h)
    ·
     rw [← h]
    ·
     exact absurd (h1 _ h) (by rw [e,zG]; exact Bool.noConfusion)
  ·
   have e':(y.1 == k)=false:=by simpa using e
   simp only [e',List.mem_cons]
   rw [ih h2]
   constructor
   ·
    exact .inr
   ·
    rintro (h | h)
    ·
     exact absurd (by rw [← h]) e
    ·
     exact h
theorem qh {L:yB V} {k:List UInt8}:qz L k=none↔yW L k=false:=by
 unfold qz yW
 rw [Option.map_eq_none_iff,List.find?_eq_none,List.any_eq_false]
theorem getV_has {L:yB V} {k:List UInt8} (h:yW L k=true):∃ v,qz L k=some v:=by
 cases hg:qz L k
 ·
  rw [qh.1 hg] at h; cases h
 ·
  exact ⟨_,rfl⟩
theorem VN {L:yB V} (hr:ye L) {p q:List UInt8×V} (hp:p∈L) (hq:q∈L) (e:p.1=q.1):p=q:=by
 have h1:=(yH hr (k:=p.1) (v:=p.2)).2 hp
 have h2:=(yH hr (k:=p.1) (v:=q.2)).2 (by rw [e]; exact hq)
 rw [h1] at h2
 injection h2 with h2
 exact Prod.ext e h2
theorem U6 {L:yB V} {k:List UInt8} {v:V} {x:List UInt8}:x∈ze (xA L k v)↔x=k∨x∈ze L:=by
 unfold ze
 simp only [List.mem_map,yG]
 constructor
 ·
  rintro ⟨p,rfl | ⟨hp,_⟩,rfl⟩
  ·
   exact .inl rfl
  ·
   exact .inr ⟨p,hp,rfl⟩
 ·
  rintro (rfl | ⟨p,hp,rfl⟩)
  ·
   exact ⟨_,.inl rfl,rfl⟩
  ·
   by_cases e:p.1=k
   ·
    exact ⟨(k,v),.inl rfl,e.symm⟩
   ·
    exact ⟨p,.inr ⟨hp,e⟩,rfl⟩
theorem names_del {L:yB V} {k x:List UInt8}:x∈ze (V8 L k)↔x∈ze L∧x≠k:=by
 unfold ze
 simp only [List.mem_map,qw]
 constructor
 ·
  rintro ⟨p,⟨hp,hn⟩,rfl⟩; exact ⟨⟨p,hp,rfl⟩,hn⟩
 ·
  rintro ⟨⟨p,hp,rfl⟩,hn⟩; exact ⟨p,⟨hp,hn⟩,rfl⟩
theorem jN {L:yB V} {k x:List UInt8} {v:V}:yW (xA L k v) x=true↔x=k∨yW L x=true:=by
 rw [xy,U6,xy]
theorem Jk {W:Type} (f:V→W) (x:List UInt8×V):∀ L:yB V,(Uk x L).map (fun p=>(p.1,f p.2))=Uk (x.1,f x.2) (L.map fun p=>(p.1,f p.2))
 | []=>rfl
 | y::r=>by
  unfold Uk
  simp only [List.map_cons]
  split <;> simp [Jk f x r]
theorem map_delV {W:Type} (f:V→W) (L:yB V) (k:List UInt8):(V8 L k).map (fun p=>(p.1,f p.2))=V8 (L.map fun p=>(p.1,f p.2)) k:=by
 unfold V8
 rw [List.filter_map]
 rfl
theorem map_putV {W:Type} (f:V→W) (L:yB V) (k:List UInt8) (v:V):(xA L k v).map (fun p=>(p.1,f p.2))=xA (L.map fun p=>(p.1,f p.2)) k (f v):=by
 unfold xA
 rw [Jk,map_delV]
theorem map_names {W:Type} (f:V→W) (L:yB V):ze (L.map fun p=>(p.1,f p.2))=ze L:=by
 unfold ze
 rw [List.map_map]; rfl
theorem map_hasV {W:Type} (f:V→W) (L:yB V) (k:List UInt8):yW (L.map fun p=>(p.1,f p.2)) k=yW L k:=by
 unfold yW
 rw [List.any_map]; rfl
end

/-! ### rows of texts -/
def ui (l:List (List UInt8)):Prop:=l.Pairwise (fun a b=>bytesBefore a b=true)
theorem ye.names {V:Type} {L:yB V} (h:ye L):ui (ze L):=List.pairwise_map.2 h
theorem uY:∀ {a b:List (List UInt8)},ui a→ui b→(∀ x,x∈a↔x∈b)→a=b
 | [],[],_,_,_=>rfl
 | [],y::s,_,_,h=>absurd ((h y).2 (by simp)) (by simp)
 | x::r,[],_,_,h=>absurd ((h x).1 (by simp)) (by simp)
 | x::r,y::s,ha,hb,h=>by
  obtain ⟨a1,a2⟩:=List.pairwise_cons.1 ha
  obtain ⟨b1,b2⟩:=List.pairwise_cons.1 hb
  have e:x=y:=by
   rcases List.mem_cons.1 ((h x).1 (by simp)) with e | hx
   ·
    exact e
   ·
    rcases List.mem_cons.1 ((h y).2 (by simp)) with e | hy
    ·
     exact e.symm
    ·
     exact absurd (b1 _ hx) (by rw [xu (a1 _ hy)]; exact Bool.noConfusion)
  subst e
  rw [uY a2 b2 fun z=>?_]
  constructor
  ·
   intro hz
   rcases List.mem_cons.1 ((h z).1 (by simp [hz])) with e | h'
   ·
    subst e; exact absurd (a1 _ hz) (by rw [zG]; exact Bool.noConfusion)
   ·
    exact h'
  ·
   intro hz
   rcases List.mem_cons.1 ((h z).2 (by simp [hz])) with e | h'
   ·
    subst e; exact absurd (b1 _ hz) (by rw [zG]; exact Bool.noConfusion)
   ·
    exact h'
theorem Vx {ls ss:List (List UInt8)} (hr:ui ls) (hp:ss.Perm ls) (le:List UInt8→List UInt8→Bool) (hle:∀ x y,le x y=!bytesBefore y x):ss.mergeSort le=ls:=by
 have:=YJ (L:=ls.map fun x=>(x,[])) (List.pairwise_map.2 (by exact hr)) (ss:=ss) (by rw [List.map_map]; exact (List.map_id ls).symm ▸ hp) le hle
 rw [this,List.map_map]
 exact List.map_id ls

def insT (s:List UInt8):List (List UInt8)→List (List UInt8)
 | []=>[s]
 | t::r=>if bytesBefore s t then s::t::r else t::insT s r
theorem XV {s x:List UInt8}:∀ {l:List (List UInt8)},x∈insT s l↔x=s∨x∈l
 | []=>by simp [insT]
 | t::r=>by
  unfold insT
  split
  ·
   simp
  ·
   simp only [List.mem_cons,XV (l:=r)]
   constructor
   ·
    rintro (h | h | h)
    ·
     exact .inr (.inl h)
    ·
     exact .inl h
    ·
     exact .inr (.inr h)
   ·
    rintro (h | h | h)
    ·
     exact .inr (.inl h)
    ·
     exact .inl h
    ·
     exact .inr (.inr h)
theorem Ul {s:List UInt8}:∀ {l:List (List UInt8)},ui l→s∉l→ui (insT s l)
 | [],_,_=>by simp [insT,ui]
 | t::r,h,hn=>by
  unfold insT
  obtain ⟨h1,h2⟩:=List.pairwise_cons.1 h
  split
  ·
   rename_i hb
   exact List.pairwise_cons.2 ⟨fun p hp=>by
    rcases List.mem_cons.1 hp with rfl | hp
    ·
     exact hb
    ·
     exact WideShapes.bytes_trans _ _ _ hb (h1 p hp),h⟩
  ·
   rename_i hb
   have hts:bytesBefore t s=true:=by
    rcases WideAt.bytes_total t s (fun e=>hn (by simp [e])) with h' | h'
    ·
     exact h'
    ·
     exact absurd h' hb
   exact List.pairwise_cons.2 ⟨fun p hp=>by
    rcases XV.1 hp with rfl | hp
    ·
     exact hts
    ·
     exact h1 p hp,Ul h2 (fun hp=>hn (by simp [hp]))⟩
def vu (out:List (List UInt8)) (s:List UInt8):List (List UInt8):=if s∈out then out else insT s out
def JI (l:List (List UInt8)):List (List UInt8):=l.foldl vu []
theorem Xv {o:List (List UInt8)} (h:ui o) (s:List UInt8):ui (vu o s):=by
 unfold vu
 split
 ·
  exact h
 ·
  rename_i hn; exact Ul h hn
theorem Vy {o:List (List UInt8)} {s x:List UInt8}:x∈vu o s↔x=s∨x∈o:=by
 unfold vu
 split
 ·
  rename_i h
  constructor
  ·
   exact .inr
  ·
   rintro (rfl | h')
   ·
    exact h
   ·
    exact h'
 ·
  exact XV
theorem Xe:∀ (l o:List (List UInt8)),ui o→ui (l.foldl vu o)
 | [],_,h=>h
 | s::r,_,h=>Xe r _ (Xv h s)
theorem Uv {x:List UInt8}:∀ (l o:List (List UInt8)),x∈l.foldl vu o↔x∈l∨x∈o
 | [],_=>by simp
 | s::r,o=>by
  show x∈r.foldl vu (vu o s)↔_
  rw [Uv r,Vy]
  simp only [List.mem_cons]
  constructor
  ·
   rintro (h | h | h)
   ·
    exact .inl (.inr h)
   ·
    exact .inl (.inl h)
   ·
    exact .inr h
  ·
   rintro ((h | h) | h)
   ·
    exact .inr (.inl h)
   ·
    exact .inl h
   ·
    exact .inr (.inr h)
theorem JH (l:List (List UInt8)):ui (JI l):=Xe l [] List.Pairwise.nil
theorem sortT_mem {l:List (List UInt8)} {x:List UInt8}:x∈JI l↔x∈l:=by
 unfold JI
 rw [Uv]; simp
theorem sortT_eq {l r:List (List UInt8)} (hr:ui r) (h:∀ x,x∈r↔x∈l):JI l=r :=
 uY (JH l) hr fun x=>by rw [sortT_mem,h]

/-! ### groups,as the code has them -/
abbrev yA:=yB Unit
abbrev zw:=yB yA
def Ua (S:zw) (g:List UInt8):yA:=(qz S g).getD []
def jM (S:zw) (g n:List UInt8):Bool:=yW (Ua S g) n
def xY (S:zw) (g:List UInt8) (l:List (List UInt8)):Int:=if zm g && l.all zm then (if yW S g then 0 else 8) else 10
def qG (S:zw) (g:List UInt8):Int:=if zm g then (if yW S g then 9 else if 6≤S.length then 7 else 0) else 10
def jd (S:zw) (g:List UInt8):zw:=if qG S g=0 then xA S g [] else S
def drE10 (S:zw) (g:List UInt8):Int:=xY S g []
def drS10 (S:zw) (g:List UInt8):zw:=if drE10 S g=0 then V8 S g else S
def jL (S:zw) (g n:List UInt8):Int:=if xY S g [n]=0 then (if jM S g n then 9 else 0) else xY S g [n]
def je (S:zw) (g n:List UInt8):zw:=if jL S g n=0 then Xq (fun l=>xA l n ()) S g else S
def ofs10 (S:zw) (n:List UInt8):zw:=S.filter fun p=>yW p.2 n
def ud (S:zw) (n:List UInt8):List (List UInt8):=ze (ofs10 S n)

structure yz (S:zw) (k:Nat):Prop where
 rise:ye S
 sets:∀ p∈S,ye p.2
 few:S.length≤6
 little:∀ p∈S,p.2.length≤k
 named:∀ p∈S,zm p.1=true
 whos:∀ p∈S,∀ m∈p.2,zm m.1=true
theorem yz.nil:yz [] 0:=⟨List.Pairwise.nil,(fun _ h=>nomatch h),by simp,(fun _ h=>nomatch h),(fun _ h=>nomatch h),(fun _ h=>nomatch h)⟩
theorem yz.mono {S:zw} {k k':Nat} (h:yz S k) (hk:k≤k'):yz S k':=⟨h.rise,h.sets,h.few,fun p hp=>Nat.le_trans (h.little p hp) hk,h.named,h.whos⟩

theorem XN {S:zw} (hr:ye S) {p:List UInt8×yA} (h:p∈S):Ua S p.1=p.2:=by
 unfold Ua
 rw [(yH hr).2 (show (p.1,p.2)∈S from h)]; rfl
theorem Ff {S:zw} {g:List UInt8} (h:yW S g=false):Ua S g=[]:=by
 unfold Ua
 rw [qh.2 h]; rfl
theorem vX {S:zw} (hr:ye S) {g n:List UInt8}:jM S g n=true↔∃ p∈S,p.1=g∧yW p.2 n=true:=by
 unfold jM
 constructor
 ·
  intro h
  cases hg:yW S g with
  | false=>rw [Ff hg] at h; cases h
  | true =>
   obtain ⟨p,hp,rfl⟩:=vy.1 hg
   rw [XN hr hp] at h
   exact ⟨p,hp,rfl,h⟩
 ·
  rintro ⟨p,hp,rfl,h⟩
  rw [XN hr hp]; exact h
theorem Z3 {S:zw} (hr:ye S) {g n:List UInt8}:g∈ud S n↔jM S g n=true:=by
 rw [vX hr]
 unfold ud ofs10 ze
 simp only [List.mem_map,List.mem_filter]
 constructor
 ·
  rintro ⟨p,⟨hp,h⟩,rfl⟩; exact ⟨p,hp,rfl,h⟩
 ·
  rintro ⟨p,hp,rfl,h⟩; exact ⟨p,⟨hp,h⟩,rfl⟩
theorem jG {S:zw} (hr:ye S) (n:List UInt8):ui (ud S n):=ye.names (hr.filter _)
theorem XK {S:zw} {g n:List UInt8} (h:g∈ud S n):g∈ze S:=by
 unfold ud ofs10 ze at h
 obtain ⟨p,hp,rfl⟩:=List.mem_map.1 h
 exact List.mem_map.2 ⟨p,(List.mem_filter.1 hp).1,rfl⟩
theorem of10_le (S:zw) (n:List UInt8):(ud S n).length≤S.length:=by
 unfold ud ofs10 ze
 rw [List.length_map]
 exact List.length_filter_le _ _
theorem yJ {V:Type} (L:yB V):(ze L).length=L.length:=List.length_map _

theorem Ur {S:zw} {k:Nat} (h:yz S k) (g:List UInt8):yz (jd S g) k:=by
 unfold jd
 split
 case isFalse=>exact h
 case isTrue he =>
  unfold qG at he
  split at he
  case isFalse=>cases he
  case isTrue hn =>
  split at he
  ·
   cases he
  ·
   rename_i hh
   have hf:yW S g=false:=by simpa using hh
   split at he
   ·
    cases he
   ·
    rename_i h6
    refine ⟨vg h.rise g [],fun p hp=>?_,?_,fun p hp=>?_,fun p hp=>?_,fun p hp=>?_⟩
    ·
     rcases yG.1 hp with rfl | ⟨hp,_⟩
     ·
      exact List.Pairwise.nil
     ·
      exact h.sets p hp
    ·
     have:=putV_le S g []; omega
    ·
     rcases yG.1 hp with rfl | ⟨hp,_⟩
     ·
      simp
     ·
      exact h.little p hp
    ·
     rcases yG.1 hp with rfl | ⟨hp,_⟩
     ·
      exact hn
     ·
      exact h.named p hp
    ·
     rcases yG.1 hp with rfl | ⟨hp,_⟩
     ·
      intro m hm; cases hm
     ·
      exact h.whos p hp
theorem good_upd {S:zw} {k k':Nat} (h:yz S k) (f:yA→yA) (g:List UInt8) (hk:k≤k') (hf:∀ l:yA,ye l→l.length≤k→ye (f l)∧(f l).length≤k') (hw:∀ l:yA,(∀ m∈l,zm m.1=true)→∀ m∈f l,zm m.1=true):yz (Xq f S g) k':=by
 refine ⟨Zu h.rise f g,fun p hp=>?_,by rw [Xq,List.length_map]; exact h.few,fun p hp=>?_,fun p hp=>?_,fun p hp=>?_⟩
 all_goals
  obtain ⟨q,hq,rfl⟩:=List.mem_map.1 hp
  have:=hf q.2 (h.sets q hq) (h.little q hq)
  by_cases e:q.1=g
  ·
   simp only [e,if_true]
   first | exact this.1 | exact this.2 | (rw [← e]; exact h.named q hq) | exact hw q.2 (h.whos q hq)
  ·
   simp only [e,if_false]
   first | exact h.sets q hq | exact Nat.le_trans (h.little q hq) hk | exact h.named q hq | exact h.whos q hq
theorem good_join {S:zw} {k:Nat} (h:yz S k) (g n:List UInt8):yz (je S g n) (k+1):=by
 unfold je
 split
 ·
  rename_i he
  have hn:zm n=true:=by
   unfold jL at he
   split at he
   ·
    rename_i hz
    unfold xY at hz
    split at hz
    ·
     rename_i hb
     simp only [List.all_cons,List.all_nil,Bool.and_true,Bool.and_eq_true] at hb
     exact hb.2
    ·
     cases hz
   ·
    rename_i hz; exact absurd he hz
  exact good_upd h _ g (by omega) (fun l hl hk=>⟨vg hl n (),by have:=putV_le l n (); omega⟩) fun l hl m hm=>by
   rcases yG.1 hm with rfl | ⟨hm,_⟩
   ·
    exact hn
   ·
    exact hl m hm
 ·
  exact h.mono (by omega)

abbrev Who10:=List UInt8×List UInt8
def qg (l:List (List UInt8)) (s:List UInt8):Bool:=l.any fun t=>t == s
theorem qy {l:List (List UInt8)} {s:List UInt8}:qg l s=true↔s∈l:=by simp [qg]
theorem Fp {l:List (List UInt8)} {s:List UInt8}:qg l s=false↔s∉l:=by rw [← qy]; simp
def dropN (N:List (List UInt8)) (g:List UInt8):List (List UInt8):=N.filter fun s=>!(s == g)
def dropM (M:List Who10) (g:List UInt8):List Who10:=M.filter fun m=>!(m.1 == g)


structure qL (S:zw) (N:List (List UInt8)) (M:List Who10):Prop where
 names:N=ze S
 mem:∀ g n,(g,n)∈M↔jM S g n=true

section
variable {S:zw} {N:List (List UInt8)} {M:List Who10} {k:Nat}
theorem qL.nil:qL [] [] []:=⟨rfl,fun _ _=>by simp [jM,Ua,qz,yW]⟩
theorem qL.has (h:qL S N M) (g:List UInt8):qg N g=yW S g:=by
 rw [Bool.eq_iff_iff,qy,xy,h.names]
theorem qL.len (h:qL S N M):N.length=S.length:=by rw [h.names,yJ]

theorem Jq (hr:ye S) {g:List UInt8} (hh:yW S g=false) (g' n:List UInt8):jM (xA S g []) g' n=jM S g' n:=by
 rw [Bool.eq_iff_iff,vX (vg hr g []),vX hr]
 constructor
 ·
  rintro ⟨p,hp,rfl,h⟩
  rcases yG.1 hp with rfl | ⟨hp,_⟩
  ·
   cases h
  ·
   exact ⟨p,hp,rfl,h⟩
 ·
  rintro ⟨p,hp,rfl,h⟩
  exact ⟨p,yG.2 (.inr ⟨hp,fun e=>by rw [qx] at hh; exact hh (by rw [← e]; exact List.mem_map.2 ⟨p,hp,rfl⟩)⟩),rfl,h⟩
theorem in10_del (hr:ye S) (g g' n:List UInt8):jM (V8 S g) g' n=true↔jM S g' n=true∧g'≠g:=by
 rw [vX (Zv hr g),vX hr]
 constructor
 ·
  rintro ⟨p,hp,rfl,h⟩
  obtain ⟨h1,h2⟩:=qw.1 hp
  exact ⟨⟨p,h1,rfl,h⟩,h2⟩
 ·
  rintro ⟨⟨p,hp,rfl,h⟩,h2⟩
  exact ⟨p,qw.2 ⟨hp,h2⟩,rfl,h⟩
theorem in10_upd (hr:ye S) (f:yA→yA) (g g' n:List UInt8):jM (Xq f S g) g' n=true↔∃ p∈S,p.1=g'∧yW (if g'=g then f p.2 else p.2) n=true:=by
 rw [vX (Zu hr f g)]
 constructor
 ·
  rintro ⟨q,hq,rfl,h⟩
  obtain ⟨p,hp,rfl⟩:=List.mem_map.1 hq
  refine ⟨p,hp,?_⟩
  by_cases e:p.1=g
  ·
   simp only [e,if_true] at h ⊢; exact ⟨trivial,h⟩
  ·
   simp only [e,if_false] at h ⊢; exact ⟨trivial,h⟩
 ·
  rintro ⟨p,hp,rfl,h⟩
  refine ⟨_,List.mem_map.2 ⟨p,hp,rfl⟩,?_⟩
  by_cases e:p.1=g
  ·
   simp only [e,if_true] at h ⊢; exact ⟨trivial,h⟩
  ·
   simp only [e,if_false] at h ⊢; exact ⟨trivial,h⟩

theorem X4 {g:List UInt8} (h:qG S g=0):zm g=true∧yW S g=false∧S.length<6:=by
 unfold qG at h
 split at h
 case isFalse=>cases h
 case isTrue hn =>
 split at h
 ·
  cases h
 ·
  rename_i hh
  split at h
  ·
   cases h
  ·
   exact ⟨hn,by simpa using hh,by omega⟩
theorem fO {g:List UInt8} {l:List (List UInt8)} (h:xY S g l=0):zm g=true∧l.all zm=true∧yW S g=true:=by
 unfold xY at h
 split at h
 case isFalse=>cases h
 case isTrue hn =>
 split at h
 ·
  rename_i hh
  simp only [Bool.and_eq_true] at hn
  exact ⟨hn.1,hn.2,hh⟩
 ·
  cases h
theorem Fk {g n:List UInt8} (h:jL S g n=0):xY S g [n]=0∧jM S g n=false:=by
 unfold jL at h
 split at h
 case isFalse hf=>exact absurd h hf
 case isTrue hf =>
 split at h
 ·
  cases h
 ·
  rename_i hi; exact ⟨hf,by simpa using hi⟩

theorem qL.make (h:qL S N M) (hg:yz S k) {g:List UInt8} (he:qG S g=0):qL (jd S g) (JI (N++[g])) M:=by
 obtain ⟨hn,hh,h6⟩:=X4 he
 unfold jd
 rw [if_pos he]
 refine ⟨sortT_eq (vg hg.rise g []).names fun x=>?_,fun g' n=>by rw [h.mem,Jq hg.rise hh]⟩
 rw [U6,h.names]
 simp [or_comm]
theorem qL.drop (h:qL S N M) (hg:yz S k) {g:List UInt8} (he:drE10 S g=0):qL (drS10 S g) (dropN N g) (dropM M g):=by
 unfold drS10
 rw [if_pos he]
 refine ⟨uY ?_ (Zv hg.rise g).names fun x=>?_,fun g' n=>?_⟩
 ·
  rw [h.names]; exact hg.rise.names.filter _
 ·
  rw [names_del,h.names]; simp [dropN]
 ·
  rw [in10_del hg.rise,← h.mem]
  simp [dropM]
theorem qL.join (h:qL S N M) (hg:yz S k) {g n:List UInt8} (he:jL S g n=0):qL (je S g n) N (M++[(g,n)]):=by
 obtain ⟨hf,hi⟩:=Fk he
 obtain ⟨_,_,hh⟩:=fO hf
 unfold je
 rw [if_pos he]
 refine ⟨by rw [h.names,jY],fun g' n'=>?_⟩
 rw [in10_upd hg.rise,List.mem_append,h.mem,vX hg.rise,List.mem_singleton]
 constructor
 ·
  rintro (⟨p,hp,rfl,h'⟩ | e)
  ·
   refine ⟨p,hp,rfl,?_⟩
   split
   ·
    exact jN.2 (.inr h')
   ·
    exact h'
  ·
   injection e with e1 e2
   subst e1 e2
   obtain ⟨p,hp,e⟩:=vy.1 hh
   exact ⟨p,hp,e,by simp [jN]⟩
 ·
  rintro ⟨p,hp,rfl,h'⟩
  by_cases e:p.1=g
  ·
   rw [if_pos e] at h'
   rcases jN.1 h' with h' | h'
   ·
    right; rw [e,h']
   ·
    exact .inl ⟨p,hp,rfl,h'⟩
  ·
   rw [if_neg e] at h'
   exact .inl ⟨p,hp,rfl,h'⟩

/-! ### what the laws ask -/
theorem Qw (g n:List UInt8):ze (je S g n)=ze S:=by
 unfold je
 split
 ·
  exact jY _ S g
 ·
  rfl
end
end Go.Proofs.YthmomkjingcbiaaGreatDoor
namespace Go.Proofs.YthmomkjingcbiaaGreatDoor
open Go.RowKit Go.Maps

theorem vL {H:Type} {w:World} {P:Program} {k:TypeId} {R:Value→Option (DataW H×List MemPlace)} {b n:Nat} {D:DataW H} (h:w.ownsMap P k R b n D):w.ownsMap P k R b (Maps.size D) D:=by
 obtain ⟨es,clock,hb,F,_,rfl⟩:=h
 have e1:Maps.size (DataW.map ((es.toList.map (WideElems.rg P k R)).foldr DataW.insert []))=es.size:=by simp [Maps.size,length_sorted]
 exact ⟨es,clock,hb,F,by rw [e1]; exact Nat.le_refl _,rfl⟩
theorem ue:Keyed Tryz.prog 9:=string_keyed Tryz.underlying9
theorem Ui (s:ByteArray) (h:s.size≤maxLen):keyOf Tryz.prog 9 (.string s)=some (.string s.data.toList):=WideMaps.keyOf_string_mk Tryz.underlying9 h
theorem zerob10 (w:World):(zeroValue 4).run Tryz.prog w=.ok (.bool false) w:=by kernel_rfl
theorem FU (w:World):(zeroValue 208).run Tryz.prog w=.ok (.map none) w:=by kernel_rfl
def yT (l:List UInt8):ByteArray:=⟨l.toArray⟩
theorem yx (l:List UInt8):(yT l).data.toList=l:=by simp [yT]
theorem uU (s:ByteArray):yT s.data.toList=s:=by simp [yT]
theorem jv (l:List UInt8):(yT l).size=l.length:=by rw [← zh,yx]

/-! ### a set of names -/
def et10:Unit→DataW Unit:=fun _=>.lit (.bool true)
def yg (w:World) (b:Nat) (L:yA):Prop:=w.ownsMap Tryz.prog 9 (plainElem Tryz.prog 4) b L.length (vY et10 L)
theorem yg.of {w:World} {b n:Nat} {L:yA} (h:w.ownsMap Tryz.prog 9 (plainElem Tryz.prog 4) b n (vY et10 L)):yg w b L:=by
 have:=vL h
 rwa [uu] at this
theorem yg.kept {w w':World} {b:Nat} {L:yA} (h:yg w b L) (hb:w'.heap[b]? = w.heap[b]?):yg w' b L:=by
 obtain ⟨es,clock,h1,r⟩:=h
 exact ⟨es,clock,hb.trans h1,r⟩
theorem VU {v:Value} {z:DataW Unit×List MemPlace} (h:plainElem Tryz.prog 4 v=some z):∃ c,v=.bool c∧z=(.lit (.bool c),[]):=by
 cases v <;> simp [plainElem,Tryz.underlying4] at h
 exact ⟨_,rfl,h.symm⟩
theorem Vg {V:Type} {e:V→DataW Unit} {L:yB V} {k:List UInt8} (z:DataW Unit) (h:qz L k=none):(vY e L).atKey (.string k) z=z:=by
 rw [datV_at,h]
theorem Z5 {V:Type} {e:V→DataW Unit} {L:yB V} {k:List UInt8} {v:V} (z:DataW Unit) (h:qz L k=some v):(vY e L).atKey (.string k) z=e v:=by
 rw [datV_at,h]
theorem at_unit10 (L:yA) (k:List UInt8):(vY et10 L).atKey (.string k) (.lit (.bool false))=.lit (.bool (yW L k)):=by
 cases h:qz L k with
 | none=>rw [Vg _ h,qh.1 h]
 | some v =>
  have:yW L k=true:=by
   cases hh:yW L k
   ·
    rw [qh.2 hh] at h; cases h
   ·
    rfl
  rw [Z5 _ h,this]; rfl
theorem has10 {w:World} {b:Nat} {L:yA} (h:yg w b L) (s:ByteArray) (hs:s.size≤maxLen) :
  (Instr.lookup 208 (.map (some b)) (.string s) false).run Tryz.prog w=.ok (.bool (yW L s.data.toList)) w:=by
 obtain ⟨v,ps,hrun,hv⟩:=h.lookup ue Tryz.underlying208 (zerob10 w) (plainElem_bool (H:=Unit) Tryz.underlying4 false) (Ui s hs)
 obtain ⟨c,rfl,hc⟩:=VU hv
 rw [hrun]
 have hc':(vY et10 L).atKey (.string s.data.toList) (.lit (.bool false))=.lit (.bool c):=congrArg Prod.fst hc
 rw [at_unit10] at hc'
 have:yW L s.data.toList=c:=by simpa using hc'
 rw [this]
theorem add10 {w:World} {b:Nat} {L:yA} (h:yg w b L) (hf:L.length≤1000) (s:ByteArray) (hs:s.size≤maxLen) :
  ∃ w',(Instr.mapUpdate 208 (.map (some b)) (.string s) (.bool true)).run Tryz.prog w=.ok () w'∧yg w' b (xA L s.data.toList ())∧w.mapTurned w' b:=by
 obtain ⟨w',hrun,hown,ht⟩:=h.store ue Tryz.underlying208 (Nat.lt_of_le_of_lt hf (by decide)) (Ui s hs) (plainElem_bool (H:=Unit) Tryz.underlying4 true)
 have e:vY et10 (xA L s.data.toList ())=(vY et10 L).put (.string s.data.toList) (et10 ()):=(V9 et10 L _ ()).symm
 exact ⟨w',hrun,yg.of (by rw [e]; exact hown),ht⟩
theorem JM (w:World):yg (w.alloc (.map #[] 0)) w.heap.size [] :=
 yg.of (n:=0) (World.ownsMap_made (H:=Unit) w Tryz.prog 9 (plainElem Tryz.prog 4))

/-! ### groups -/
abbrev zU:=yB (Nat×yA)
def R10:Value→Option (DataW Unit×List MemPlace)
 | .map (some b)=>some (.lit (.int .i64 b),[])
 | .map none=>some (.nil,[])
 | _=>none
def QN:Nat×yA→DataW Unit:=fun p=>.lit (.int .i64 p.1)
def zC (T:zU):zw:=T.map fun p=>(p.1,p.2.2)
def jR (T:zU) (g:List UInt8):Option Nat:=(qz T g).map (·.1)
def ob10:Option Nat→DataW Unit
 | some b=>.lit (.int .i64 b)
 | none=>.nil
theorem Jh {o o':Option Nat} (h:ob10 o=ob10 o'):o=o':=by
 cases o with
 | none=>cases o' with
  | none=>rfl
  | some b=>cases h
 | some a=>cases o' with
  | none=>cases h
  | some b =>
   unfold ob10 at h
   injection h with h
   injection h with _ h
   rw [Int.ofNat.inj h]
theorem at_blk10 (T:zU) (k:List UInt8):(vY QN T).atKey (.string k) .nil=ob10 (jR T k):=by
 unfold jR
 cases h:qz T k with
 | none=>rw [Vg _ h]; rfl
 | some v=>rw [Z5 _ h]; rfl
theorem Qh {v:Value} {z:DataW Unit×List MemPlace} (h:R10 v=some z):∃ o,v=.map o∧z.1=ob10 o:=by
 unfold R10 at h
 split at h
 ·
  cases h; exact ⟨_,rfl,rfl⟩
 ·
  cases h; exact ⟨_,rfl,rfl⟩
 ·
  cases h

structure yh (w:World) (B:Nat) (p:Option Nat) (T:zU):Prop where
 blk:w.heap[B]? = some (.cells #[.map p] 167 (0,0))
 nil:p=none→T=[]
 map:∀ b,p=some b→w.ownsMap Tryz.prog 9 R10 b T.length (vY QN T)
 sets:∀ x∈T,yg w x.2.1 x.2.2
 one:∀ x∈T,∀ y∈T,x.2.1=y.2.1→x.1=y.1
 off:∀ x∈T,p≠some x.2.1
 rise:ye T

theorem yu {w:World} {b B n:Nat} {R:Value→Option (DataW Unit×List MemPlace)} {D:DataW Unit} {c:Array Value} {T:TypeId} {fr:Nat×Nat} (hm:w.ownsMap Tryz.prog 9 R b n D) (hB:w.heap[B]? = some (.cells c T fr)):b≠B:=fun e=>by
 obtain ⟨es,clock,h1,_⟩:=hm
 subst e
 rw [hB] at h1
 cases h1
section
variable {w w':World} {B:Nat} {p:Option Nat} {T:zU}
theorem yh.lt (h:yh w B p T):B<w.heap.size:=(Array.getElem?_eq_some_iff.1 h.blk).1
theorem yh.mlt (h:yh w B p T):∀ b,p=some b→b<w.heap.size:=fun b hb=>(h.map b hb).lt
theorem yh.slt (h:yh w B p T):∀ x∈T,x.2.1<w.heap.size:=fun x hx=>World.ownsMap.lt (h.sets x hx)
theorem yh.cell (h:yh w B p T):w.cell? ⟨B,0,none⟩=some (.map p):=by simp [World.cell?,h.blk]
theorem yh.frozen (h:yh w B p T):w.frozen? ⟨B,0,none⟩=false:=by simp [World.frozen?,h.blk]
theorem yh.mne (h:yh w B p T):∀ b,p=some b→b≠B:=fun b hb=>yu (h.map b hb) h.blk
theorem yh.sne (h:yh w B p T):∀ x∈T,x.2.1≠B:=fun x hx=>yu (h.sets x hx) h.blk
theorem yh.turns {S:Nat→Prop} (h:yh w B p T) (ht:zb S w w') (hB:¬ S B) (hp:∀ b,p=some b→¬ S b) (hs:∀ x∈T,¬ S x.2.1):yh w' B p T:=by
 refine ⟨(ht.block B h.lt hB).trans h.blk,h.nil,fun b hb=>?_,fun x hx=>(h.sets x hx).kept (ht.block _ (h.slt x hx) (hs x hx)),h.one,h.off,h.rise⟩
 obtain ⟨es,clock,h1,r⟩:=h.map b hb
 exact ⟨es,clock,(ht.block b (h.mlt b hb) (hp b hb)).trans h1,r⟩
theorem yh.later (h:yh w B p T) (hb:Below w.heap.size w w'):yh w' B p T:=h.turns (zb.of_below hb (fun _=>False)) (fun f=>f) (fun _ _ f=>f) (fun _ _ f=>f)

theorem look10 (h:yh w B p T) (s:ByteArray) (hs:s.size≤maxLen) :
  (Instr.lookup 165 (.map p) (.string s) true).run Tryz.prog w=.ok (.tuple #[.map (jR T s.data.toList),.bool (yW T s.data.toList)]) w:=by
 cases p with
 | none =>
  have hL:=h.nil rfl
  subst hL
  exact Maps.look_nil (P:=Tryz.prog) (w:=w) (t:=165) true ue Tryz.underlying165 (FU w) (Ui s hs)
 | some b =>
  obtain ⟨v,ps,hrun,hv⟩:=(h.map b rfl).look_ok ue Tryz.underlying165 (FU w) (show R10 (.map none)=some (.nil,[]) from rfl) (Ui s hs)
  obtain ⟨o,rfl,ho⟩:=Qh hv
  rw [hrun,Va]
  have ho':(vY QN T).atKey (.string s.data.toList) .nil=ob10 o:=ho
  rw [at_blk10] at ho'
  rw [Jh ho']
theorem len10 (h:yh w B p T) (ty:TypeId):(Builtin.len_ #[165] ty #[.map p]).run Tryz.prog w=.ok (.int .i64 T.length) w:=by
 cases p with
 | none =>
  have hL:=h.nil rfl
  subst hL
  exact Maps.len_nil Tryz.underlying165 ty
 | some b =>
  have:=(h.map b rfl).len (t:=165) Tryz.underlying165 ty
  rwa [uu] at this
theorem Ji (w:World) (p:Option Nat):(binOp .eql 165 (.map p) (.map none)).run Tryz.prog w=.ok (.bool p.isNone) w :=
 run_eql_map_nil_sl w 165 _ _ p Tryz.underlying165
end

theorem ja (T:zU) (k:List UInt8):yW (zC T) k=yW T k:=map_hasV (fun v:Nat×yA=>v.2) T k
theorem jE (T:zU):ze (zC T)=ze T:=map_names (fun v:Nat×yA=>v.2) T
theorem Zy (T:zU):(zC T).length=T.length:=List.length_map _
theorem Ql (T:zU) (k:List UInt8) (v:Nat×yA):zC (xA T k v)=xA (zC T) k v.2:=map_putV (fun v:Nat×yA=>v.2) T k v
theorem Qk (f:yA→yA) (T:zU) (k:List UInt8):zC (Xq (fun v=>(v.1,f v.2)) T k)=Xq f (zC T) k:=by
 unfold zC Xq
 rw [List.map_map,List.map_map]
 refine List.map_congr_left fun x _=>?_
 show (let y:=if x.1=k then (x.1,(x.2.1,f x.2.2)) else x; (y.1,y.2.2))=if x.1=k then (x.1,f x.2.2) else (x.1,x.2.2)
 by_cases e:x.1=k
 ·
  rw [if_pos e,if_pos e]
 ·
  rw [if_neg e,if_neg e]
theorem Qm {T:zU} (hr:ye T) {x:List UInt8×(Nat×yA)} (hx:x∈T):Ua (zC T) x.1=x.2.2:=by
 have h1:ye (zC T):=qW hr (jE T)
 have h2:(x.1,x.2.2)∈zC T:=List.mem_map.2 ⟨x,hx,rfl⟩
 exact XN h1 h2
theorem FK {T:zU} (hr:ye T) {x:List UInt8×(Nat×yA)} (hx:x∈T):jR T x.1=some x.2.1:=by
 unfold jR
 rw [(yH hr).2 (show (x.1,x.2)∈T from hx)]; rfl
theorem FL {T:zU} {k:List UInt8} (h:yW T k=false):jR T k=none:=by
 unfold jR
 rw [qh.2 h]; rfl
theorem js {V:Type} {f:V→V} {L:yB V} {k:List UInt8} {p:List UInt8×V} (h:p∈Xq f L k):∃ q∈L,p=(q.1,if q.1=k then f q.2 else q.2):=by
 obtain ⟨q,hq,rfl⟩:=List.mem_map.1 h
 refine ⟨q,hq,?_⟩
 by_cases e:q.1=k
 ·
  rw [if_pos e,if_pos e]
 ·
  rw [if_neg e,if_neg e]
theorem yh.turned {w w':World} {B:Nat} {p:Option Nat} {T:zU} (h:yh w B p T) {x:List UInt8×(Nat×yA)} (hx:x∈T) (f:yA→yA) (hs:yg w' x.2.1 (f x.2.2)) (ht:zb (fun i=>i=x.2.1) w w'):yh w' B p (Xq (fun v=>(v.1,f v.2)) T x.1):=by
 have hbb:∀ q∈T,(if q.1=x.1 then (q.2.1,f q.2.2) else q.2).1=q.2.1:=fun q _=>by split <;> rfl
 refine ⟨(ht.block B h.lt (fun e=>h.sne x hx e.symm)).trans h.blk,fun e=>?_,fun b hb=>?_,fun y hy=>?_,fun y hy z hz e=>?_,fun y hy=>?_,Zu h.rise _ _⟩
 ·
  rw [h.nil e] at hx; cases hx
 ·
  have e1:vY QN (Xq (fun v=>(v.1,f v.2)) T x.1)=vY QN T:=datV_upd (e:=QN) (f:=fun v=>(v.1,f v.2)) (fun _=>rfl) T x.1
  rw [e1,show (Xq (fun v:Nat×yA=>(v.1,f v.2)) T x.1).length=T.length from List.length_map _]
  obtain ⟨es,clock,h1,r⟩:=h.map b hb
  exact ⟨es,clock,(ht.block b (h.mlt b hb) (fun e=>h.off x hx (by rw [hb,e]))).trans h1,r⟩
 ·
  obtain ⟨q,hq,rfl⟩:=js hy
  by_cases e:q.1=x.1
  ·
   have:=VN h.rise hq hx e
   subst this
   simp only [if_true]
   exact hs
  ·
   simp only [e,if_false]
   exact (h.sets q hq).kept (ht.block _ (h.slt q hq) (fun e'=>e (h.one q hq x hx e')))
 ·
  obtain ⟨q,hq,rfl⟩:=js hy
  obtain ⟨r,hr,rfl⟩:=js hz
  simp only [hbb q hq,hbb r hr] at e
  exact h.one q hq r hr e
 ·
  obtain ⟨q,hq,rfl⟩:=js hy
  simp only [hbb q hq]
  exact h.off q hq

def Turn10 (B:Nat) (p:Option Nat) (T:zU) (w w':World):Prop:=zb (fun i=>i=B∨p=some i∨∃ x∈T,x.2.1=i) w w'
def yO (w:World) (B:Nat) (p:Option Nat) (T:zU) (S':zw) (w':World):Prop :=
 ∃ p' T',yh w' B p' T'∧zC T'=S'∧(∀ b,p'=some b→p=some b∨w.heap.size≤b)∧(∀ x∈T',(∃ y∈T,y.2.1=x.2.1)∨w.heap.size≤x.2.1)∧Turn10 B p T w w'
theorem yO.still {w w':World} {B:Nat} {p:Option Nat} {T:zU} (h:yh w B p T) (hb:Below w.heap.size w w'):yO w B p T (zC T) w' :=
 ⟨p,T,h.later hb,rfl,fun _ e=>.inl e,fun x hx=>.inl ⟨x,hx,rfl⟩,zb.of_below hb _⟩
theorem yO.ahead {w w1 w':World} {B:Nat} {p:Option Nat} {T:zU} {S':zw} (hb:Below w.heap.size w w1) (h:yO w1 B p T S' w'):yO w B p T S' w':=by
 obtain ⟨p',T',hd,hS,hp,hx,ht⟩:=h
 exact ⟨p',T',hd,hS,fun b e=>(hp b e).imp id (fun h=>Nat.le_trans hb.size h),fun x hh=>(hx x hh).imp id (fun h=>Nat.le_trans hb.size h),(zb.of_below hb _).next ht (fun i _ h=>h)⟩

set_option maxRecDepth 100000 in
theorem Y3 (s:ByteArray) (w:World) (hs:s.size≤9223372036854775807) :
  Calls Tryz.prog 242 #[.string s] w (yt (!zm s.data.toList) w):=by
 have HN:=z8 (vD s w hs)
 cases hb:zm s.data.toList with
 | false =>
  rw [hb] at HN
  have HN2:Hid (Calls Tryz.prog 52 #[.string s] w (yi 10 w)):=HN.out
  clear HN hb
  go_enter Tryz.func242,Tryz.ntmps242
  go_wp2_with fail
  with_reducible refine HN2.out.mono ?_
  rintro e w1 ⟨rfl,hb⟩
  have HB:=z8 hb
  clear hb HN2
  go_wp2
  go_ret
  exact ⟨rfl,HB.out⟩
 | true =>
  rw [hb] at HN
  have HN2:Hid (Calls Tryz.prog 52 #[.string s] w (yi 0 w)):=HN.out
  clear HN hb
  go_enter Tryz.func242,Tryz.ntmps242
  go_wp2_with fail
  with_reducible refine HN2.out.mono ?_
  rintro e w1 ⟨rfl,hb⟩
  have HB:=z8 hb
  clear hb HN2
  go_wp2
  go_ret
  exact ⟨rfl,HB.out⟩

set_option maxRecDepth 100000 in
theorem Qy (g:Nat) (B:Nat) (s:ByteArray) (b:Bool) (w:World) (eg:∀ args w,(callFunc g args).run Tryz.prog w=.ok (.enter g args) w) (hc:w.cell? ⟨B,0,none⟩=some (.string s)) (hp:Calls Tryz.prog g #[.string s] w (yt b w)) :
  Calls Tryz.prog 135 #[.slice (some ⟨B,0,none⟩) 1 1,.func (.func g) #[] #[]] w fun e w'=>e=.returned (.int .i64 (if b then 0 else -1))∧Below w.heap.size w w':=by
 have HP:=z8 hp
 clear hp
 cases b with
 | true =>
  go_enter Tryz.func135,Tryz.ntmps135
  go_wp2
  refine wp_loop_rounds 1 ?_
  rw [rounds_succ]
  go_wp2_with (go_at_fn g; (with_reducible refine HP.out.mono ?_); rintro e w1 ⟨rfl,hb⟩; have HB:=z8 hb; clear hb)
  go_ret
  exact ⟨rfl,HB.out⟩
 | false =>
  go_enter Tryz.func135,Tryz.ntmps135
  go_wp2
  refine wp_loop_rounds 2 ?_
  rw [rounds_succ]
  go_wp2_with (go_at_fn g; (with_reducible refine HP.out.mono ?_); rintro e w1 ⟨rfl,hb⟩; have HB:=z8 hb; clear hb)
  rw [rounds_succ]
  go_wp2
  go_ret
  exact ⟨rfl,HB.out⟩
set_option maxRecDepth 100000 in
theorem Yv (g:Nat) (B:Nat) (s:ByteArray) (b:Bool) (w:World) (eg:∀ args w,(callFunc g args).run Tryz.prog w=.ok (.enter g args) w) (hc:w.cell? ⟨B,0,none⟩=some (.string s)) (hp:Calls Tryz.prog g #[.string s] w (yt b w)) :
  Calls Tryz.prog 241 #[.slice (some ⟨B,0,none⟩) 1 1,.func (.func g) #[] #[]] w (yt b w):=by
 have HP:=z8 (Qy g B s b w eg hc hp)
 clear hp hc
 cases b with
 | true =>
  go_enter Tryz.func241,Tryz.ntmps241
  go_wp2_with fail
  with_reducible refine HP.out.mono ?_
  rintro e w1 ⟨rfl,hb⟩
  have HB:=z8 hb
  clear hb HP
  go_wp2
  go_ret
  exact ⟨rfl,HB.out⟩
 | false =>
  go_enter Tryz.func241,Tryz.ntmps241
  go_wp2_with fail
  with_reducible refine HP.out.mono ?_
  rintro e w1 ⟨rfl,hb⟩
  have HB:=z8 hb
  clear hb HP
  go_wp2
  go_ret
  exact ⟨rfl,HB.out⟩
set_option maxRecDepth 100000 in
theorem qm (B:Nat) (s:ByteArray) (w:World) (hs:s.size≤9223372036854775807) (hc:w.cell? ⟨B,0,none⟩=some (.string s)):Calls Tryz.prog 200 #[.slice (some ⟨B,0,none⟩) 1 1] w (yt (zm s.data.toList) w):=by
 have HP:=z8 (Yv _ B s _ w (enters_of Tryz.func242 (by kernel_rfl) rfl) hc (Y3 s w hs))
 clear hc
 generalize zm s.data.toList=b at *
 cases b with
 | true =>
  go_enter Tryz.func200,Tryz.ntmps200
  go_wp2_with fail
  with_reducible refine HP.out.mono ?_
  rintro e w1 ⟨rfl,hb⟩
  have HB:=z8 hb
  clear hb HP
  go_wp2
  go_ret
  exact ⟨rfl,HB.out⟩
 | false =>
  go_enter Tryz.func200,Tryz.ntmps200
  go_wp2_with fail
  with_reducible refine HP.out.mono ?_
  rintro e w1 ⟨rfl,hb⟩
  have HB:=z8 hb
  clear hb HP
  go_wp2
  go_ret
  exact ⟨rfl,HB.out⟩

/-! ### has -/
set_option maxRecDepth 100000 in
theorem QA (s:ByteArray) (w:World):Calls Tryz.prog 208 #[.string s] w fun e w'=>e=.returned (.func (.func 247) #[] #[.pointer (some ⟨w.heap.size,0,none⟩)])∧w'=w.alloc (.cells #[.string s] 9):=by
 have hmf:=mkf
 go_enter Tryz.func208,Tryz.ntmps208
 go_wp2
 go_ret
 exact ⟨rfl,rfl⟩
set_option maxRecDepth 100000 in
theorem Fr (C b:Nat) (L:yA) (s:ByteArray) (w:World) (hs:s.size≤maxLen) (hc:w.cell? ⟨C,0,none⟩=some (.string s)) (h:yg w b L):Calls Tryz.prog 247 #[.map (some b),.pointer (some ⟨C,0,none⟩)] w fun e w'=>e=.returned (.bool (yW L s.data.toList))∧w'=w:=by
 have hl:=has10 h s hs
 generalize yW L s.data.toList=r at *
 clear h
 go_enter Tryz.func247,Tryz.ntmps247
 go_wp2
 go_ret
 exact ⟨rfl,rfl⟩

/-! ### every -/
set_option maxRecDepth 100000 in
theorem XX (fv:Value) (w:World):Calls Tryz.prog 276 #[.slice none 0 0,fv] w fun e w'=>e=.returned (.int .i64 (-1))∧w'=w:=by
 go_enter Tryz.func276,Tryz.ntmps276
 go_wp2
 refine wp_loop_rounds 1 ?_
 rw [rounds_succ]
 go_wp2
 go_ret
 exact ⟨rfl,rfl⟩
set_option maxRecDepth 100000 in
theorem Un (g:Nat) (B C:Nat) (f:Value) (b:Bool) (w:World) (eg:∀ args w,(callFunc g args).run Tryz.prog w=.ok (.enter g args) w) (hc:w.cell? ⟨B,0,none⟩=some f) (hp:Calls Tryz.prog g #[f,.pointer (some ⟨C,0,none⟩)] w (yt b w)) :
  Calls Tryz.prog 276 #[.slice (some ⟨B,0,none⟩) 1 1,.func (.func g) #[] #[.pointer (some ⟨C,0,none⟩)]] w fun e w'=>e=.returned (.int .i64 (if b then 0 else -1))∧Below w.heap.size w w':=by
 have HP:=z8 hp
 clear hp
 cases b with
 | true =>
  go_enter Tryz.func276,Tryz.ntmps276
  go_wp2
  refine wp_loop_rounds 1 ?_
  rw [rounds_succ]
  go_wp2_with (go_at_fn g; (with_reducible refine HP.out.mono ?_); rintro e w1 ⟨rfl,hb⟩; have HB:=z8 hb; clear hb)
  go_ret
  exact ⟨rfl,HB.out⟩
 | false =>
  go_enter Tryz.func276,Tryz.ntmps276
  go_wp2
  refine wp_loop_rounds 2 ?_
  rw [rounds_succ]
  go_wp2_with (go_at_fn g; (with_reducible refine HP.out.mono ?_); rintro e w1 ⟨rfl,hb⟩; have HB:=z8 hb; clear hb)
  rw [rounds_succ]
  go_wp2
  go_ret
  exact ⟨rfl,HB.out⟩
set_option maxRecDepth 100000 in
theorem fW (fv:Value) (w:World):Calls Tryz.prog 261 #[.slice none 0 0,fv] w fun e w'=>e=.returned (.bool false)∧w'=w:=by
 have HP:=z8 (XX fv w)
 go_enter Tryz.func261,Tryz.ntmps261
 go_wp2_with fail
 with_reducible refine HP.out.mono ?_
 rintro e w1 ⟨rfl,rfl⟩
 go_wp2
 go_ret
 exact ⟨rfl,rfl⟩
set_option maxRecDepth 100000 in
theorem ZY (g:Nat) (B C:Nat) (f:Value) (b:Bool) (w:World) (eg:∀ args w,(callFunc g args).run Tryz.prog w=.ok (.enter g args) w) (hc:w.cell? ⟨B,0,none⟩=some f) (hp:Calls Tryz.prog g #[f,.pointer (some ⟨C,0,none⟩)] w (yt b w)) :
  Calls Tryz.prog 261 #[.slice (some ⟨B,0,none⟩) 1 1,.func (.func g) #[] #[.pointer (some ⟨C,0,none⟩)]] w (yt b w):=by
 have HP:=z8 (Un g B C f b w eg hc hp)
 clear hp hc
 cases b with
 | true =>
  go_enter Tryz.func261,Tryz.ntmps261
  go_wp2_with fail
  with_reducible refine HP.out.mono ?_
  rintro e w1 ⟨rfl,hb⟩
  have HB:=z8 hb
  clear hb HP
  go_wp2
  go_ret
  exact ⟨rfl,HB.out⟩
 | false =>
  go_enter Tryz.func261,Tryz.ntmps261
  go_wp2_with fail
  with_reducible refine HP.out.mono ?_
  rintro e w1 ⟨rfl,hb⟩
  have HB:=z8 hb
  clear hb HP
  go_wp2
  go_ret
  exact ⟨rfl,HB.out⟩
set_option maxRecDepth 100000 in
theorem QK (p:Option Nat) (w:World):Calls Tryz.prog 246 #[.map p,.slice none 0 0] w (yt true w):=by
 have hmf:=mkf
 have HP:Hid (∀ fv W,Calls Tryz.prog 261 #[.slice none 0 0,fv] W fun e w'=>e=.returned (.bool false)∧w'=W):=fW
 have HB:=z8 (za (Below.refl w.heap.size w) (.cells #[.map p] 208))
 go_enter Tryz.func246,Tryz.ntmps246
 go_wp2_with fail
 with_reducible refine (HP.out _ _).mono ?_
 rintro e w1 ⟨rfl,rfl⟩
 go_wp2
 go_ret
 exact ⟨rfl,HB.out⟩
set_option maxRecDepth 100000 in
theorem V4 (C D b:Nat) (L:yA) (s:ByteArray) (w:World) (hs:s.size≤maxLen) (hC:w.cell? ⟨C,0,none⟩=some (.string s)) (hD:w.cell? ⟨D,0,none⟩=some (.map (some b))) (h:yg w b L) :
  Calls Tryz.prog 262 #[.func (.func 247) #[] #[.pointer (some ⟨C,0,none⟩)],.pointer (some ⟨D,0,none⟩)] w (yt (!yW L s.data.toList) w):=by
 have eg:∀ args w,(callFunc 247 args).run Tryz.prog w=.ok (.enter 247 args) w:=enters_of Tryz.func247 (by kernel_rfl) rfl
 have HP:Hid (Calls Tryz.prog 247 #[.map (some b),.pointer (some ⟨C,0,none⟩)] w (yt (yW L s.data.toList) w)):=(Fr C b L s w hs hC h).mono fun e w' ⟨he,hw⟩=>⟨he,by rw [hw]; exact Below.refl _ _⟩
 clear hC h
 generalize yW L s.data.toList=r at *
 cases r with
 | true =>
  show Calls _ _ _ _ (yt false w)
  go_enter Tryz.func262,Tryz.ntmps262
  go_wp2_with (go_at_fn 247; (with_reducible refine HP.out.mono ?_); rintro e w1 ⟨rfl,hb⟩; have HB:=z8 hb; clear hb)
  go_ret
  exact ⟨rfl,HB.out⟩
 | false =>
  show Calls _ _ _ _ (yt true w)
  go_enter Tryz.func262,Tryz.ntmps262
  go_wp2_with (go_at_fn 247; (with_reducible refine HP.out.mono ?_); rintro e w1 ⟨rfl,hb⟩; have HB:=z8 hb; clear hb)
  go_ret
  exact ⟨rfl,HB.out⟩
set_option maxRecDepth 100000 in
theorem FB (A C b:Nat) (L:yA) (s:ByteArray) (w:World) (hs:s.size≤maxLen) (hA:w.cell? ⟨A,0,none⟩=some (.func (.func 247) #[] #[.pointer (some ⟨C,0,none⟩)])) (hC:w.cell? ⟨C,0,none⟩=some (.string s)) (h:yg w b L) :
  Calls Tryz.prog 246 #[.map (some b),.slice (some ⟨A,0,none⟩) 1 1] w (yt (yW L s.data.toList) w):=by
 have hmf:=mkf
 have hb:=za (Below.refl w.heap.size w) (.cells #[.map (some b)] 208)
 have lA:A<w.heap.size:=World.block_lt_of_cell? w _ hA
 have lC:C<w.heap.size:=World.block_lt_of_cell? w _ hC
 have cA:=(hb.cell (p:=⟨A,0,none⟩) lA).trans hA
 have cC:=(hb.cell (p:=⟨C,0,none⟩) lC).trans hC
 have cD:(w.alloc (.cells #[.map (some b)] 208)).cell? ⟨w.heap.size,0,none⟩=some (.map (some b)):=by rw [World.cell?_alloc_at _ _ _ _ rfl]; rfl
 have HP:=z8 (ZY _ A w.heap.size _ _ _ (enters_of Tryz.func262 (by kernel_rfl) rfl) cA (V4 C w.heap.size b L s _ hs cC cD (h.kept (hb.block b (World.ownsMap.lt h)))))
 have HB:=z8 hb
 clear hb cA cC cD h hA hC lA lC
 generalize yW L s.data.toList=r at *
 cases r with
 | true =>
  go_enter Tryz.func246,Tryz.ntmps246
  go_wp2_with fail
  with_reducible refine HP.out.mono ?_
  rintro e w1 ⟨rfl,hb1⟩
  have HB1:=z8 (z7 HB.out hb1)
  clear hb1 HP
  go_wp2
  go_ret
  exact ⟨rfl,HB1.out⟩
 | false =>
  go_enter Tryz.func246,Tryz.ntmps246
  go_wp2_with fail
  with_reducible refine HP.out.mono ?_
  rintro e w1 ⟨rfl,hb1⟩
  have HB1:=z8 (z7 HB.out hb1)
  clear hb1 HP
  go_wp2
  go_ret
  exact ⟨rfl,HB1.out⟩

set_option maxRecDepth 100000 in
theorem xb (s:ByteArray) (w:World) (hl:s.size≤1000):Calls Tryz.prog 153 #[.string s] w fun e w'=>e=.returned (.string s)∧Below w.heap.size w w':=by
 have HC:=z8 (Tryz.stringslite_Clone s w (Nat.le_trans hl (by decide)))
 go_enter Tryz.func153,Tryz.ntmps153
 go_wp2_with fail
 with_reducible refine HC.out.mono ?_
 rintro e w1 ⟨rfl,hb⟩
 have HB:=z8 hb
 clear hb
 go_wp2
 go_ret
 exact ⟨rfl,HB.out⟩

set_option maxRecDepth 100000 in
theorem Yg (b:Nat) (L:yA) (s:ByteArray) (w:World) (h:yg w b L) (hf:L.length≤1000) (hs:s.size≤1000) :
  Calls Tryz.prog 224 #[.map (some b),.string s] w fun e w'=>e=.returned (.tuple #[])∧yg w' b (xA L s.data.toList ())∧zb (fun i=>i=b) w w':=by
 have HC:=z8 (xb s w hs)
 have HA:Hid (∀ W,Below w.heap.size w W→∃ w',(Instr.mapUpdate 208 (.map (some b)) (.string s) (.bool true)).run Tryz.prog W=.ok () w'∧yg w' b (xA L s.data.toList ())∧zb (fun i=>i=b) w w'):=fun W hb=>by
  obtain ⟨w',h1,h2,h3⟩:=add10 (h.kept (hb.block b (World.ownsMap.lt h))) hf s (Nat.le_trans hs (by decide))
  exact ⟨w',h1,h2,(zb.of_below hb _).grown h3.grown (fun k hk _=>by cases hk; rfl)⟩
 clear h
 go_enter Tryz.func224,Tryz.ntmps224
 go_wp2_with fail
 with_reducible refine HC.out.mono ?_
 rintro e w1 ⟨rfl,hb⟩
 obtain ⟨w2,hrun,h2,h3⟩:=HA.out w1 hb
 have H2:=z8 h2
 have H3:=z8 h3
 clear hb h2 h3 HA HC
 go_wp2
 go_end0
 exact ⟨rfl,H2.out,H3.out⟩

set_option maxRecDepth 100000 in
theorem Qp (w:World):Calls Tryz.prog 64 #[] w fun e w'=>e=.returned (.pointer (some ⟨w.heap.size,0,none⟩))∧w'=w.alloc (.cells #[.map none] 167):=by
 go_enter Tryz.func64,Tryz.ntmps64
 go_wp2
 go_ret
 exact ⟨rfl,rfl⟩
theorem grp10_new (w:World):yh (w.alloc (.cells #[.map none] 167)) w.heap.size none [] :=
 ⟨(MapKept.heap_alloc w _).1,(fun _=>rfl),(fun _ h=>nomatch h),(fun _ h=>nomatch h),(fun _ h=>nomatch h),(fun _ h=>nomatch h),List.Pairwise.nil⟩

def vP (w:World) (B:Nat) (p:Option Nat) (T':zU) (w':World):Prop :=
 ∃ p',yh w' B p' T'∧(∀ c,p'=some c→p=some c∨w.heap.size≤c)∧zb (fun i=>i=B∨p=some i) w w'
theorem Uq {w w':World} {B m b:Nat} {T:zU} {l:yA} {k:List UInt8} {n:Nat} (h:yh w B (some m) T) (hs:yg w b l) (hn:∀ x∈T,x.2.1≠b) (hm:m≠b) (ht:w.mapTurned w' m)
  (hown:w'.ownsMap Tryz.prog 9 R10 m n (vY QN (xA T k (b,l)))):yh w' B (some m) (xA T k (b,l)):=by
 have htn:zb (fun i=>i=m) w w':=(zb.refl _ w).grown ht.grown (fun k hk _=>by cases hk; rfl)
 refine ⟨(htn.block B h.lt (fun e=>h.mne m rfl e.symm)).trans h.blk,(fun e=>nomatch e),fun c hc=>?_,fun x hx=>?_,fun x hx y hy e=>?_,fun x hx=>?_,vg h.rise _ _⟩
 ·
  cases hc
  have:=vL hown
  rwa [uu] at this
 ·
  rcases yG.1 hx with rfl | ⟨hx,_⟩
  ·
   exact hs.kept (htn.block b (World.ownsMap.lt hs) (fun e=>hm e.symm))
  ·
   exact (h.sets x hx).kept (htn.block _ (h.slt x hx) (fun e=>h.off x hx (by rw [e])))
 ·
  rcases yG.1 hx with rfl | ⟨hx,_⟩ <;> rcases yG.1 hy with rfl | ⟨hy,_⟩
  ·
   rfl
  ·
   exact absurd e.symm (hn y hy)
  ·
   exact absurd e (hn x hx)
  ·
   exact h.one x hx y hy e
 ·
  rcases yG.1 hx with rfl | ⟨hx,_⟩
  ·
   intro e; injection e with e; exact hm e
  ·
   exact h.off x hx
theorem ZN {w:World} {B m b:Nat} {T:zU} {l:yA} (h:yh w B (some m) T) (hs:yg w b l) (hn:∀ x∈T,x.2.1≠b) (hm:m≠b) (hf:T.length≤1000) (g:ByteArray) (hg:g.size≤maxLen) :
  ∃ w',(Instr.mapUpdate 165 (.map (some m)) (.string g) (.map (some b))).run Tryz.prog w=.ok () w'∧yh w' B (some m) (xA T g.data.toList (b,l))∧zb (fun i=>i=m) w w':=by
 obtain ⟨w',hrun,hown,ht⟩:=(h.map m rfl).store ue Tryz.underlying165 (Nat.lt_of_le_of_lt hf (by decide)) (Ui g hg) (show R10 (.map (some b))=some (.lit (.int .i64 b),[]) from rfl)
 have e:vY QN (xA T g.data.toList (b,l))=(vY QN T).put (.string g.data.toList) (.lit (.int .i64 b)):=(V9 QN T _ (b,l)).symm
 exact ⟨w',hrun,Uq h hs hn hm ht (by rw [e]; exact hown),(zb.refl _ w).grown ht.grown (fun k hk _=>by cases hk; rfl)⟩

def YP10 (B m b:Nat) (g:ByteArray):Nat→Value→Prop
 | 3,v=>v=.map (some m)
 | 4,v=>v=.string g
 | 5,v=>v=.string g
 | 6,v=>v=.map (some b)
 | _,v=>v=.pointer (some ⟨B,0,none⟩)
def YPut10 (B m b:Nat) (g:ByteArray) (j:Nat) (v:Value) (_:World):Prop:=YP10 B m b g j v

set_option maxRecDepth 100000 in
theorem F6 (B m b:Nat) (T:zU) (l:yA) (g:ByteArray) (w:World) (h:yh w B (some m) T) (hs:yg w b l) (hn:∀ x∈T,x.2.1≠b) (hm:m≠b) (hf:T.length≤1000) (hg:g.size≤1000) :
  Calls Tryz.prog 201 #[.pointer (some ⟨B,0,none⟩),.string g,.map (some b)] w fun e w'=>e=.returned (.tuple #[])∧vP w B (some m) (xA T g.data.toList (b,l)) w':=by
 have HC:Hid (∀ W,Calls Tryz.prog 153 #[.string g] W fun e w'=>e=.returned (.string g)∧Below W.heap.size W w'):=fun W=>xb g W hg
 have hq:=Ji w (some m)
 have hc:=h.cell
 have HG1:=z8 h
 have HST:Hid (∀ W,Below w.heap.size w W→∃ w',(Instr.mapUpdate 165 (.map (some m)) (.string g) (.map (some b))).run Tryz.prog W=.ok () w'∧vP w B (some m) (xA T g.data.toList (b,l)) w'):=fun W hb=>by
  obtain ⟨w',h1,h2,h3⟩:=ZN (h.later hb) (hs.kept (hb.block b (World.ownsMap.lt hs))) hn hm hf g (Nat.le_trans hg (by decide))
  exact ⟨w',h1,some m,h2,(fun _ e=>.inl e),(zb.of_below hb _).next h3 (fun i _ e=>.inr (by rw [e]))⟩
 clear h hs hn hm hf
 go_enter Tryz.func201,Tryz.ntmps201
 go_wp2_with fail

 refine xa (by kernel_rfl) 7 (fun W=>Below w.heap.size w W) (fun W=>vP w B (some m) (xA T g.data.toList (b,l)) W) (YPut10 B m b g) (fun _=>True) ?F ?hF (by kernel_rfl) (by kernel_rfl) (by kernel_rfl) (by kernel_rfl) (by decide) (zy (Below.refl _ _)) ?step ?fin
 case hF =>
  intro x
  simp only [List.map_cons,List.map_nil,xc,Act.put,List.setIfInBounds_toArray,List.set_cons_zero,List.set_cons_succ,Nat.zero_add,Nat.reduceAdd]
  exact rfl
 case step =>
  refine ⟨?_,?_,?_,?_,?_,?_,?_,?_,trivial⟩
  ·
   intro x W
   refine ⟨fun _ hW hdep K hK=>?_,(fun h=>absurd h (by decide)),(fun h=>absurd h (by decide))⟩
   clear hdep
   go_simp
   exact hK _ _ rfl hW (fun _ _ h=>h)
  ·
   intro x W
   refine ⟨fun _ hW hdep K hK=>?_,(fun h=>absurd h (by decide)),(fun h=>absurd h (by decide))⟩
   have h0:x 0=_:=hdep 0 rfl
   clear hdep
   simp only [h0] at hK
   go_simp
   exact hK _ _ rfl hW (fun _ _ h=>h)
  ·
   intro x W
   refine ⟨fun _ hW hdep K hK=>?_,(fun h=>absurd h (by decide)),(fun h=>absurd h (by decide))⟩
   have h1:x 1=_:=hdep 1 rfl
   clear hdep
   simp only [h1] at hK
   go_simp
   exact hK _ _ rfl hW (fun _ _ h=>h)
  ·
   intro x W
   refine ⟨fun _ hW hdep K hK=>?_,(fun h=>absurd h (by decide)),(fun h=>absurd h (by decide))⟩
   have h2:x 2=_:=hdep 2 rfl
   have c:=(HG1.out.later hW).cell
   clear hdep
   simp only [h2] at hK
   go_simp
   exact hK _ _ rfl hW (fun _ _ h=>h)
  ·
   intro x W
   refine ⟨fun _ hW hdep K hK=>?_,(fun h=>absurd h (by decide)),(fun h=>absurd h (by decide))⟩
   clear hdep
   go_simp
   exact hK _ _ rfl hW (fun _ _ h=>h)
  ·
   intro x W
   refine ⟨fun _ hW hdep K hK=>?_,(fun h=>absurd h (by decide)),(fun h=>absurd h (by decide))⟩
   have h4:x 4=_:=hdep 4 rfl
   have hc:=HC.out W
   clear hdep
   simp only [h4] at hK
   go_simp
   refine hc.mono ?_
   rintro e W' ⟨rfl,hb⟩
   exact hK _ _ rfl (z7 hW hb) (fun _ _ h=>h)
  ·
   intro x W
   refine ⟨fun _ hW hdep K hK=>?_,(fun h=>absurd h (by decide)),(fun h=>absurd h (by decide))⟩
   clear hdep
   go_simp
   exact hK _ _ rfl hW (fun _ _ h=>h)
  ·
   intro x W
   refine ⟨(fun h=>absurd h (by decide)),fun _ hW hdep K hK=>?_,(fun h=>absurd h (by decide))⟩
   have h3:x 3=_:=hdep 3 rfl
   have h5:x 5=_:=hdep 5 rfl
   have h6:x 6=_:=hdep 6 rfl
   obtain ⟨w',hrun,hg⟩:=HST.out W hW
   clear hdep
   simp only [h3,h5,h6] at hK
   go_simp
   exact hK undef _ trivial hg
 case fin =>
  intro x W hW _
  have HF:=z8 hW
  clear hW HG1 HST HC
  go_end0
  exact ⟨rfl,HF.out⟩

set_option maxRecDepth 100000 in
theorem F7 (B b:Nat) (l:yA) (g:ByteArray) (w:World) (h:yh w B none []) (hs:yg w b l) (hg:g.size≤1000) :
  Calls Tryz.prog 201 #[.pointer (some ⟨B,0,none⟩),.string g,.map (some b)] w fun e w'=>e=.returned (.tuple #[])∧vP w B none (xA [] g.data.toList (b,l)) w':=by
 have HC:Hid (∀ W,Calls Tryz.prog 153 #[.string g] W fun e w'=>e=.returned (.string g)∧Below W.heap.size W w'):=fun W=>xb g W hg
 have hq:=Ji w none
 have hc:=h.cell
 have hf0:=h.frozen
 have hBl:=h.lt
 have hmm:=@run_makeMap Tryz.prog
 have hbl:b<w.heap.size:=World.ownsMap.lt hs
 have hbB:b≠B:=yu hs h.blk
 have hsz:(w.setCell ⟨B,0,none⟩ (.map (some w.heap.size))).heap.size=w.heap.size:=by simp [World.setCell]
 have hblk1:=heap_setCell_box_a (.map (some w.heap.size)) h.blk
 have hblk2:((w.setCell ⟨B,0,none⟩ (.map (some w.heap.size))).alloc (.map #[] 0)).heap[B]? = some (.cells #[.map (some w.heap.size)] 167 (0,0)):=(Below.heap_alloc _ _ B (by omega)).trans hblk1
 have hown:=World.ownsMap_made (H:=Unit) (w.setCell ⟨B,0,none⟩ (.map (some w.heap.size))) Tryz.prog 9 R10
 rw [hsz] at hown
 have ht1:zb (fun i=>i=B∨(none:Option Nat)=some i) w ((w.setCell ⟨B,0,none⟩ (.map (some w.heap.size))).alloc (.map #[] 0)):=((zb.refl _ w).setCell (p:=⟨B,0,none⟩) (fun _=>.inl rfl) _).alloc _
 have hG:yh ((w.setCell ⟨B,0,none⟩ (.map (some w.heap.size))).alloc (.map #[] 0)) B (some w.heap.size) []:=by
  refine ⟨hblk2,(fun e=>nomatch e),fun c hc=>?_,(fun _ h=>nomatch h),(fun _ h=>nomatch h),(fun _ h=>nomatch h),List.Pairwise.nil⟩
  cases hc
  exact hown
 have hs1:yg ((w.setCell ⟨B,0,none⟩ (.map (some w.heap.size))).alloc (.map #[] 0)) b l:=hs.kept (ht1.block b hbl (by rintro (e | e); exact hbB e; cases e))
 have HG1:=z8 hG
 have HST:Hid (∀ W,Below ((w.setCell ⟨B,0,none⟩ (.map (some w.heap.size))).alloc (.map #[] 0)).heap.size ((w.setCell ⟨B,0,none⟩ (.map (some w.heap.size))).alloc (.map #[] 0)) W→∃ w',(Instr.mapUpdate 165 (.map (some w.heap.size)) (.string g) (.map (some b))).run Tryz.prog W=.ok () w'∧vP w B none (xA [] g.data.toList (b,l)) w'):=fun W hb=>by
  obtain ⟨w',h1,h2,h3⟩:=ZN (hG.later hb) (hs1.kept (hb.block b (World.ownsMap.lt hs1))) (fun _ h=>nomatch h) (by omega) (by simp) g (Nat.le_trans hg (by decide))
  refine ⟨w',h1,some w.heap.size,h2,(fun c e=>.inr (by cases e; exact Nat.le_refl _)),(ht1.next (zb.of_below hb (fun _=>False)) (fun _ _ f=>f.elim)).next h3 (fun i hi e=>?_)⟩
  omega
 obtain ⟨hc2,hf2⟩:=cell_of_box_a hblk2
 clear h hs hs1 hG hown hblk1 hblk2 ht1 hbl hbB hsz
 go_enter Tryz.func201,Tryz.ntmps201
 go_wp2_with fail
 generalize (w.setCell ⟨B,0,none⟩ (.map (some w.heap.size))).alloc (.map #[] 0)=w1 at *

 refine xa (by kernel_rfl) 7 (fun W=>Below w1.heap.size w1 W) (fun W=>vP w B none (xA [] g.data.toList (b,l)) W) (YPut10 B w.heap.size b g) (fun _=>True) ?F ?hF (by kernel_rfl) (by kernel_rfl) (by kernel_rfl) (by kernel_rfl) (by decide) (zy (Below.refl _ _)) ?step ?fin
 case hF =>
  intro x
  simp only [List.map_cons,List.map_nil,xc,Act.put,List.setIfInBounds_toArray,List.set_cons_zero,List.set_cons_succ,Nat.zero_add,Nat.reduceAdd]
  exact rfl
 case step =>
  refine ⟨?_,?_,?_,?_,?_,?_,?_,?_,trivial⟩
  ·
   intro x W
   refine ⟨fun _ hW hdep K hK=>?_,(fun h=>absurd h (by decide)),(fun h=>absurd h (by decide))⟩
   clear hdep
   go_simp
   exact hK _ _ rfl hW (fun _ _ h=>h)
  ·
   intro x W
   refine ⟨fun _ hW hdep K hK=>?_,(fun h=>absurd h (by decide)),(fun h=>absurd h (by decide))⟩
   have h0:x 0=_:=hdep 0 rfl
   clear hdep
   simp only [h0] at hK
   go_simp
   exact hK _ _ rfl hW (fun _ _ h=>h)
  ·
   intro x W
   refine ⟨fun _ hW hdep K hK=>?_,(fun h=>absurd h (by decide)),(fun h=>absurd h (by decide))⟩
   have h1:x 1=_:=hdep 1 rfl
   clear hdep
   simp only [h1] at hK
   go_simp
   exact hK _ _ rfl hW (fun _ _ h=>h)
  ·
   intro x W
   refine ⟨fun _ hW hdep K hK=>?_,(fun h=>absurd h (by decide)),(fun h=>absurd h (by decide))⟩
   have h2:x 2=_:=hdep 2 rfl
   have c:=(HG1.out.later hW).cell
   clear hdep
   simp only [h2] at hK
   go_simp
   exact hK _ _ rfl hW (fun _ _ h=>h)
  ·
   intro x W
   refine ⟨fun _ hW hdep K hK=>?_,(fun h=>absurd h (by decide)),(fun h=>absurd h (by decide))⟩
   clear hdep
   go_simp
   exact hK _ _ rfl hW (fun _ _ h=>h)
  ·
   intro x W
   refine ⟨fun _ hW hdep K hK=>?_,(fun h=>absurd h (by decide)),(fun h=>absurd h (by decide))⟩
   have h4:x 4=_:=hdep 4 rfl
   have hc:=HC.out W
   clear hdep
   simp only [h4] at hK
   go_simp
   refine hc.mono ?_
   rintro e W' ⟨rfl,hb⟩
   exact hK _ _ rfl (z7 hW hb) (fun _ _ h=>h)
  ·
   intro x W
   refine ⟨fun _ hW hdep K hK=>?_,(fun h=>absurd h (by decide)),(fun h=>absurd h (by decide))⟩
   clear hdep
   go_simp
   exact hK _ _ rfl hW (fun _ _ h=>h)
  ·
   intro x W
   refine ⟨(fun h=>absurd h (by decide)),fun _ hW hdep K hK=>?_,(fun h=>absurd h (by decide))⟩
   have h3:x 3=_:=hdep 3 rfl
   have h5:x 5=_:=hdep 5 rfl
   have h6:x 6=_:=hdep 6 rfl
   obtain ⟨w',hrun,hg⟩:=HST.out W hW
   clear hdep
   simp only [h3,h5,h6] at hK
   go_simp
   exact hK undef _ trivial hg
 case fin =>
  intro x W hW _
  have HF:=z8 hW
  clear hW HG1 HST HC
  go_end0
  exact ⟨rfl,HF.out⟩

theorem Qj (B b:Nat) (p:Option Nat) (T:zU) (l:yA) (g:ByteArray) (w:World) (h:yh w B p T) (hs:yg w b l) (hn:∀ x∈T,x.2.1≠b) (hm:p≠some b) (hf:T.length≤1000) (hg:g.size≤1000) :
  Calls Tryz.prog 201 #[.pointer (some ⟨B,0,none⟩),.string g,.map (some b)] w fun e w'=>e=.returned (.tuple #[])∧vP w B p (xA T g.data.toList (b,l)) w':=by
 cases p with
 | none =>
  have:=h.nil rfl
  subst this
  exact F7 B b l g w h hs hg
 | some m=>exact F6 B m b T l g w h hs hn (fun e=>hm (by rw [e])) hf hg


set_option maxRecDepth 100000 in
theorem Fz (B:Nat) (p:Option Nat) (T:zU) (g:ByteArray) (A:Nat) (n:ByteArray) (w:World) (h:yh w B p T) (hg:g.size≤9223372036854775807) (hn:n.size≤9223372036854775807) (hA:w.cell? ⟨A,0,none⟩=some (.string n)) :
  Calls Tryz.prog 226 #[.pointer (some ⟨B,0,none⟩),.string g,.slice (some ⟨A,0,none⟩) 1 1] w fun e w'=>e=.returned (.tuple #[.map (if xY (zC T) g.data.toList [n.data.toList]=0 then jR T g.data.toList else none),.int .i64 (xY (zC T) g.data.toList [n.data.toList])])∧Below w.heap.size w w':=by
 have HI:=z8 h
 have hb0:Below w.heap.size w (w.alloc (.cells #[.string g] 9)):=za (Below.refl _ _) _
 have HN:=z8 (qm w.heap.size g _ hg (show (w.alloc (.cells #[.string g] 9)).cell? ⟨w.heap.size,0,none⟩=some (.string g) by rw [World.cell?_alloc_at _ _ _ _ rfl]; rfl))
 have HB0:=z8 hb0
 have HLK:Hid (∀ W,Below w.heap.size w W→(Instr.lookup 165 (.map p) (.string g) true).run Tryz.prog W=.ok (.tuple #[.map (jR T g.data.toList),.bool (yW T g.data.toList)]) W):=fun W hb=>look10 (h.later hb) g (Nat.le_trans hg (by decide))
 unfold xY
 rw [ja]
 have hbn:yW T g.data.toList=false→jR T g.data.toList=none:=FL
 have lA:A<w.heap.size:=World.block_lt_of_cell? w _ hA
 have HM:Hid (∀ W,Below w.heap.size w W→Calls Tryz.prog 200 #[.slice (some ⟨A,0,none⟩) 1 1] W (yt (zm n.data.toList) W)):=fun W hb=>qm A n W hn ((hb.cell (p:=⟨A,0,none⟩) lA).trans hA)
 clear hA lA
 simp only [List.all_cons,List.all_nil,Bool.and_true]
 generalize zm n.data.toList=d at *
 clear hb0 h
 generalize jR T g.data.toList=o at *
 generalize yW T g.data.toList=b at *
 generalize zm g.data.toList=a at *
 cases a with
 | false =>
  show Calls _ _ _ _ fun e w'=>e=.returned (.tuple #[.map none,.int .i64 10])∧Below w.heap.size w w'
  go_enter Tryz.func226,Tryz.ntmps226
  go_wp2_with fail
  with_reducible refine HN.out.mono ?_
  rintro e w1 ⟨rfl,hb⟩
  have HB:=z8 (z7 HB0.out hb)
  clear hb HN
  go_wp2
  go_ret2
  exact ⟨rfl,HB.out⟩
 | true =>
  cases d with
  | false =>
   show Calls _ _ _ _ fun e w'=>e=.returned (.tuple #[.map none,.int .i64 10])∧Below w.heap.size w w'
   go_enter Tryz.func226,Tryz.ntmps226
   go_wp2_with fail
   with_reducible refine HN.out.mono ?_
   rintro e w1 ⟨rfl,hb⟩
   have hb1:=z7 HB0.out hb
   have HB1:=z8 hb1
   have HM1:=z8 (HM.out w1 hb1)
   clear hb hb1
   go_wp2_with fail
   with_reducible refine HM1.out.mono ?_
   rintro e w2 ⟨rfl,hb⟩
   have HB2:=z8 (z7 HB1.out hb)
   clear hb HM1 HM
   go_wp2
   go_ret2
   exact ⟨rfl,HB2.out⟩
  | true =>
   cases b with
   | false =>
    rw [hbn rfl]
    show Calls _ _ _ _ fun e w'=>e=.returned (.tuple #[.map none,.int .i64 8])∧Below w.heap.size w w'
    go_enter Tryz.func226,Tryz.ntmps226
    go_wp2_with fail
    with_reducible refine HN.out.mono ?_
    rintro e w1 ⟨rfl,hb⟩
    have hb1:=z7 HB0.out hb
    have HB1:=z8 hb1
    have HM1:=z8 (HM.out w1 hb1)
    clear hb hb1
    go_wp2_with fail
    with_reducible refine HM1.out.mono ?_
    rintro e w2 ⟨rfl,hb⟩
    have HB2:=z8 (z7 HB1.out hb)
    clear hb HM1 HM
    have c2:=(HI.out.later HB2.out).cell
    have l2:=HLK.out _ HB2.out
    clear HN HLK HI
    go_wp2
    go_ret2
    exact ⟨rfl,HB2.out⟩
   | true =>
    show Calls _ _ _ _ fun e w'=>e=.returned (.tuple #[.map o,.int .i64 0])∧Below w.heap.size w w'
    go_enter Tryz.func226,Tryz.ntmps226
    go_wp2_with fail
    with_reducible refine HN.out.mono ?_
    rintro e w1 ⟨rfl,hb⟩
    have hb1:=z7 HB0.out hb
    have HB1:=z8 hb1
    have HM1:=z8 (HM.out w1 hb1)
    clear hb hb1
    go_wp2_with fail
    with_reducible refine HM1.out.mono ?_
    rintro e w2 ⟨rfl,hb⟩
    have HB2:=z8 (z7 HB1.out hb)
    clear hb HM1 HM
    have c2:=(HI.out.later HB2.out).cell
    have l2:=HLK.out _ HB2.out
    clear HN HLK HI
    go_wp2
    go_ret2
    exact ⟨rfl,HB2.out⟩
end Go.Proofs.YthmomkjingcbiaaGreatDoor
namespace Go.Proofs.YthmomkjingcbiaaGreatDoor
open Go.RowKit Go.Maps Go.Sort Go.Shelf

theorem lt10 (x y:List UInt8):ltOf Lib.compareBytes x y=bytesBefore x y:=vC x y
theorem swo10:SWO (ltOf Lib.compareBytes) where
 irrefl x:=by rw [lt10]; exact zG x
 trans x y z h1 h2:=by rw [lt10] at *; exact WideShapes.bytes_trans _ _ _ h1 h2
 ntrans x y z h1 h2:=by
  rw [lt10] at *
  cases h:bytesBefore x z
  ·
   rfl
  ·
   by_cases e:x=y
   ·
    subst e; rw [h] at h2; cases h2
   ·
    rcases WideAt.bytes_total x y e with h' | h'
    ·
     rw [h'] at h1; cases h1
    ·
     rw [WideShapes.bytes_trans _ _ _ h' h] at h2; cases h2
theorem tot10 (x y:List UInt8) (h1:ltOf Lib.compareBytes x y=false) (h2:ltOf Lib.compareBytes y x=false):x=y:=by
 rw [lt10] at *
 by_cases e:x=y
 ·
  exact e
 ·
  rcases WideAt.bytes_total x y e with h' | h'
  ·
   rw [h'] at h1; cases h1
  ·
   rw [h'] at h2; cases h2
set_option maxRecDepth 100000 in
theorem ZZ (a b:ByteArray) (w:World) :
  Calls Tryz.prog 138 #[.string a,.string b] w fun e w'=>e=.returned (.int .i64 (Lib.compareBytes a.data.toList b.data.toList))∧w'=w:=by
 have HC:=z8 (Tryz.strings_Compare a b w)
 generalize Lib.compareBytes a.data.toList b.data.toList=r at *
 go_enter Tryz.func138,Tryz.ntmps138
 go_wp2_with fail
 with_reducible refine HC.out.mono ?_
 rintro e w1 ⟨rfl,rfl⟩
 go_wp2
 go_ret
 exact ⟨rfl,rfl⟩
theorem cmp10 (blk off size:Nat) (w:World):CmpLays1 Tryz.prog 138 #[] encStr Lib.compareBytes blk off size w :=
 CmpReads.lays fun _ _ _ _ x y=>(ZZ ⟨x.toArray⟩ ⟨y.toArray⟩ _).mono fun e w' ⟨he,hw⟩=>⟨by rw [he],0,hw⟩
theorem Vz (blk cap:Nat) (ss ls:List (List UInt8)) (W:World) (hr:ui ls) (hp:ss.Perm ls) (hH:Holds encStr W blk 0 ss.toArray) (hb:blk<W.heap.size) (hl:ss.length<4611686018427387904) :
  Calls Tryz.prog 210 #[.slice (some ⟨blk,0,none⟩) ss.length cap,.func (.func 138) #[] #[]] W fun e w'=>e=.returned (.tuple #[])∧∃ n os,w'=grow (putRow encStr (Sort.ahead W n) blk 0 ls.toArray) os:=by
 have:=Tryz.slices_SortFunc_total encStr (fun _=>rfl) Lib.compareBytes swo10 138 #[] blk 0 cap ss.toArray W (enters_of Tryz.func138 (by kernel_rfl) rfl) (cmp10 blk 0 _ W) hH hb (by simpa using hl) tot10
 rw [← Vx hr hp (fun x y=>!(ltOf Lib.compareBytes) y x) (fun x y=>by rw [lt10])]
 simpa [sortWorld] using this
theorem Zj (cap:Nat) (W:World):Calls Tryz.prog 210 #[.slice none 0 cap,.func (.func 138) #[] #[]] W fun e w'=>e=.returned (.tuple #[])∧w'=W :=
 Tryz.slices_SortFunc_none (α:=List UInt8) none cap _ W

def uO {V:Type} (T:yB V) (q:List UInt8×V→Bool) (left:Lit→Bool) (ss:List (List UInt8)):Prop:=ss.Nodup∧∀ x,x∈ss↔∃ p∈T,p.1=x∧q p=true∧left (.string x)=false
section
variable {V:Type} {T:yB V} {q:List UInt8×V→Bool} {left:Lit→Bool} {ss:List (List UInt8)}
theorem uO.start (e:V→DataW Unit):uO T q (Maps.has (vY e T)) []:=⟨List.nodup_nil,fun x=>by
 constructor
 ·
  intro h; cases h
 ·
  rintro ⟨p,hp,rfl,_,h⟩
  rw [Va,vy.2 ⟨p,hp,rfl⟩] at h
  cases h⟩
theorem coll10_at {e:V→DataW Unit} (hr:ye T) {x:List UInt8} {y:DataW Unit} (hat:∀ zd,(vY e T).atKey (.string x) zd=y):∃ p∈T,p.1=x∧e p.2=y:=by
 have h1:Maps.has (vY e T) (.string x)=true:=has_true_of_atKey hat
 rw [Va] at h1
 obtain ⟨v,hv⟩:=getV_has h1
 have h2:=hat .nil
 rw [Z5 _ hv] at h2
 exact ⟨(x,v),(yH hr).1 hv,rfl,h2⟩
theorem uO.hit (h:uO T q left ss) {p:List UInt8×V} (hp:p∈T) (hq:q p=true) (hlk:left (.string p.1)=true):uO T q (fun z=>left z && !z.sameKey (.string p.1)) (ss++[p.1]):=by
 have hnew:p.1∉ss:=fun hx=>by obtain ⟨_,_,_,_,h'⟩:=(h.2 _).1 hx; rw [hlk] at h'; cases h'
 refine ⟨List.nodup_append.2 ⟨h.1,by simp,fun a ha b hb=>by simp at hb; subst hb; exact fun e=>hnew (e ▸ ha)⟩,fun y=>?_⟩
 by_cases hy:y=p.1
 ·
  subst hy
  constructor
  ·
   intro _; exact ⟨p,hp,rfl,hq,by simp [Lit.sameKey]⟩
  ·
   intro _; simp
 ·
  simp [h.2 y,hy,Lit.sameKey]
theorem uO.miss (hr:ye T) (h:uO T q left ss) {p:List UInt8×V} (hp:p∈T) (hq:q p=false):uO T q (fun z=>left z && !z.sameKey (.string p.1)) ss:=by
 refine ⟨h.1,fun y=>?_⟩
 rw [h.2 y]
 refine exists_congr fun p'=>and_congr_right fun hp'=>and_congr_right fun e=>and_congr_right fun hq'=>?_
 have:y≠p.1:=fun ey=>by
  have:=VN hr hp' hp (e.trans ey)
  rw [this,hq] at hq'
  cases hq'
 simp [Lit.sameKey,this]
theorem uO.perm (hr:ye T) (h:uO T q left ss) (hl:∀ kl,left kl=false):ss.Perm (ze (T.filter q)):=by
 refine (List.perm_ext_iff_of_nodup h.1 ?_).2 fun x=>?_
 ·
  have h1:ui (ze (T.filter q)):=ye.names (hr.filter _)
  exact h1.imp fun {a b} hab e=>by subst e; rw [zG] at hab; cases hab
 ·
  rw [h.2 x]
  unfold ze
  simp only [List.mem_map,List.mem_filter,hl]
  constructor
  ·
   rintro ⟨p,hp,rfl,hq,_⟩; exact ⟨p,⟨hp,hq⟩,rfl⟩
  ·
   rintro ⟨p,⟨hp,hq⟩,rfl⟩; exact ⟨p,hp,rfl,hq,trivial⟩
end
theorem qP {w w':World} {P:Program} {k:TypeId} {R:Value→Option (DataW Unit×List MemPlace)} {b r n:Nat} {D:DataW Unit} {left:Lit→Bool} {cnt:Nat} (h:w.ranges P k R b r n D left cnt) (hb:Below w.heap.size w w'):w'.ranges P k R b r n D left cnt:=by
 have h1:=h.owns.lt
 have h2:=h.lt
 obtain ⟨es,clock,since,seen,c0,hb',F,hs,hD,hr,rest⟩:=h
 exact ⟨es,clock,since,seen,c0,(hb.block b h1).trans hb',F,hs,hD,(hb.block r h2).trans hr,rest⟩
theorem Um:(Tryz.prog.info? 9).map (fun i=>(i.zero,i.size,i.bytes))=some (some (.string ⟨#[]⟩),1,16):=by kernel_rfl


def yn (ls:List (List UInt8)) (w:World) (e:Ending) (w':World):Prop :=
 ∃ v,e=.returned v∧w'.ownsRow w.heap.size 9 1 v ls.length (ls.map encStr)∧Below w.heap.size w w'
theorem zx {w:World} {a b:Nat} {e size n:Nat} {v:Value} {xs:List Value} (h:w.ownsRow b e size v n xs) (hab:a≤b):w.ownsRow a e size v n xs:=by
 refine ⟨h.1,?_⟩
 rcases h.2 with hn | ⟨g,cap,cur,e1,h0,hg,hr⟩
 ·
  exact .inl hn
 ·
  exact .inr ⟨g,cap,cur,e1,Nat.le_trans hab h0,hg,hr⟩
theorem xM {w w':World} {b:Nat} {e size n:Nat} {v:Value} {xs:List Value} (h:w.ownsRow b e size v n xs) (hb:Below w.heap.size w w'):w'.ownsRow b e size v n xs:=by
 refine ⟨h.1,?_⟩
 rcases h.2 with hn | ⟨g,cap,cur,e1,h0,hg,hr⟩
 ·
  exact .inl hn
 ·
  exact .inr ⟨g,cap,cur,e1,h0,(hb.block g (Array.getElem?_eq_some_iff.1 hg).1).trans hg,hr⟩

set_option maxRecDepth 100000 in
theorem jC (b:Nat) (T:yB (Nat×yA)) (q:List UInt8×(Nat×yA)→Bool) (av:Value) (w:World) (hr:ye T) (hf:T.length≤1000) (hown:w.ownsMap Tryz.prog 9 (R10) b T.length (vY QN T))
  (hev:∀ W,Below w.heap.size w W→∀ x∈T,Calls Tryz.prog 246 #[.map (some x.2.1),av] W (yt (q x) W)) :
  Calls Tryz.prog 204 #[.map (some b),av] w (yn (ze (T.filter q)) w):=by
 obtain ⟨i0,hi,hz0,hz1,hz2⟩:=info_parts Um
 have hbl:=hown.lt
 have HEV:=z8 hev
 have HR:=z8 hr
 clear hev hr
 have hsz:Maps.size (vY QN T)=T.length:=uu QN T
 have HSRT:Hid (∀ blk cap (ss ls:List (List UInt8)) (W:World),ui ls→ss.Perm ls→Holds encStr W blk 0 ss.toArray→blk<W.heap.size→ss.length<4611686018427387904→Calls Tryz.prog 210 #[.slice (some ⟨blk,0,none⟩) ss.length cap,.func (.func 138) #[] #[]] W fun e w'=>e=.returned (.tuple #[])∧∃ n os,w'=grow (putRow encStr (Sort.ahead W n) blk 0 ls.toArray) os):=Vz
 have HSRT0:Hid (∀ cap W,Calls Tryz.prog 210 #[.slice none 0 cap,.func (.func 138) #[] #[]] W fun e w'=>e=.returned (.tuple #[])∧w'=W):=Zj
 go_enter Tryz.func204,Tryz.ntmps204
 go_wp2_with (first
  | (at_range; refine wpList_range_own _ rfl _ 165 rfl 9 208 ue Tryz.underlying165 _ b _ _ rfl hown ?_; intro w0 hrg0 hg0 hs0)
  | go_in)
 go_frame
 rw [hsz] at hrg0
 have hs1:w0.heap.size=w.heap.size+1:=hs0
 obtain ⟨len,hlen⟩:∃ len,len=T.length:=⟨_,rfl⟩
 rw [← hlen] at hrg0 hf
 have HLN:=z8 hlen
 clear hs0 hown hlen hsz
 go_loopw [5] (fun v wr=>∃ (left:Lit→Bool) (cnt:Nat) (ss:List (List UInt8)),Hid (wr.ranges Tryz.prog 9 (R10) b w.heap.size len (vY QN T) left cnt)∧ss.length+cnt≤len ∧
   Hid (wr.ownsRow w.heap.size 9 1 v ss.length (ss.map encStr))∧Hid (uO T q left ss)∧Hid (Below w.heap.size w wr))
  (fun _ wr=>wr.rangeLeft b w.heap.size)
 case atStart =>
  exact ⟨_,_,[],hrg0,by simp,World.ownsRow_nil _ _ _ _,uO.start QN,(Below.refl _ _).grown hg0 (Nat.le_refl _) (fun j hj=>by cases hj)⟩
 case round =>
  obtain ⟨left,cnt,ss,HRG,hcs,HROW,HC,HNX⟩:=hrel
  have hrg:=HRG.out
  go_wp2_with (first
   | (at_next; refine wpList_next_ranges _ rfl _ rfl 9 ue (R10) encStr Value.map (fun key kl hk=>by obtain ⟨x,hx,_⟩:=Maps.keyOf_str Tryz.underlying9 hk; exact ⟨x,hx⟩) (fun v y hv=>by obtain ⟨c,rfl,_⟩:=Qh hv; exact ⟨c,rfl⟩) b w.heap.size len _ _ _ rfl hrg ?_ ?_)
   | go_in)
  ·
   intro hc0 hl0
   have hp:=HC.out.perm HR.out hl0
   have hrt:ui (ze (T.filter q)):=ye.names (HR.out.filter _)
   have hpl:=hp.length_eq
   have hrow:=HROW.out
   rcases hrow.2 with ⟨hnil,hz⟩ | ⟨g,cap,cur,rfl,hbase,hgb,r1,r2,r3,r4⟩
   ·
    subst hnil
    have hss:ss=[]:=List.eq_nil_of_length_eq_zero hz
    subst hss
    have hne:ze (T.filter q)=[]:=List.eq_nil_of_length_eq_zero hpl.symm
    have HF:Hid (yn (ze (T.filter q)) w (.returned (.slice none 0 0)) wr):=by
     rw [hne]
     exact ⟨_,rfl,World.ownsRow_nil _ _ _ _,HNX.out⟩
    clear hrow hz hne hpl hrt hp hrg hl0
    go_wp2_with (go_at_call 210; (with_reducible refine (HSRT0.out _ _).mono ?_); rintro e w' ⟨rfl,rfl⟩)
    go_ret
    exact HF.out
   ·
    have hH:Holds encStr wr g 0 ss.toArray:=holds_of_block hgb (by simpa using r4)
    have hgl:g<wr.heap.size:=(Array.getElem?_eq_some_iff.1 hgb).1
    have cS:=z8 (HSRT.out g cap ss _ wr hrt hp hH hgl (by omega))
    have HF:Hid (∀ n os,yn (ze (T.filter q)) w (.returned (.slice (some ⟨g,0,none⟩) ss.length cap)) (grow (putRow encStr (Sort.ahead wr n) g 0 (ze (T.filter q)).toArray) os)):=fun n os=>by
     refine ⟨_,rfl,?_,HNX.out.grown (grownBy_sorted _) HNX.out.size (fun j hj=>by cases hj; exact hbase)⟩
     have:=ownsRow_sorted (ts:=ze (T.filter q)) (n:=n) (os:=os) hpl.symm hbase hgb r1 r2 r3
     rw [← hpl]; exact this
    clear hrow hbase hgb r1 r2 r3 r4 hH hgl hpl hp hrt hrg hl0
    generalize ss.length=n at *
    go_wp2_with (go_at_call 210; (with_reducible refine cS.out.mono ?_); rintro e w' ⟨rfl,nn,os,rfl⟩)
    go_ret
    exact HF.out nn os
  ·
   intro x c kl yd yp w2 cnt2 hkey hlk hv hat hrg2 hlt hg2 hs2 hen
   obtain ⟨x',ex,rfl,_⟩:=Maps.keyOf_str Tryz.underlying9 hkey
   obtain rfl:x=x':=encStr_inj ex
   obtain ⟨p,hpT,rfl,hpe⟩:=coll10_at HR.out hat
   obtain rfl:(some p.2.1)=c:=by
    obtain ⟨o,ho,hz⟩:=Qh hv
    have e1:c=o:=by injection ho
    have e2:ob10 (some p.2.1)=ob10 o:=hpe.trans hz
    rw [e1]; exact Jh e2
   have hnx2:Below w.heap.size w w2:=HNX.out.grown hg2 HNX.out.size (fun j hj=>by cases hj; exact Nat.le_refl _)
   have hrow2:=HROW.out.kept hg2 (Or.inr (row_ne_iter HROW.out hrg).symm)
   have HEV2:=z8 (HEV.out w2 hnx2 p hpT)
   have HNX2:=z8 hnx2
   have HROW2:=z8 hrow2
   have HRG2:=z8 hrg2
   have hkz:(fun l:List UInt8=>(Value.string ⟨l.toArray⟩)) p.1=encStr p.1:=rfl
   have HLT:Hid (cnt2<wr.rangeLeft b w.heap.size):=by rw [show wr.rangeLeft b w.heap.size=cnt from hrg.left_eq]; exact hlt
   have HPT:=z8 hpT
   have HLK:=z8 hlk
   clear hs2 hnx2 hrow2 hrg2 hkz hpT hat hv hpe hkey hg2 HROW HRG hrg HNX HEV hlk
   have hlt2:ss.length+cnt2+1≤len:=by omega
   have hkv:encStr p.1=.string (yT p.1):=rfl
   have HKV:=z8 hkv
   rw [hkv] at hen ⊢
   clear hkv
   cases hq:q p with
   | true =>
    rw [hq] at HEV2
    have HC2:=z8 (HC.out.hit HPT.out hq HLK.out)
    clear HC hq HLK
    generalize yT p.1=kv at *
    go_wp2_with (first
     | (go_at_call 246; (with_reducible refine HEV2.out.mono ?_); rintro e w3 ⟨rfl,hb3⟩; have HROW3:=z8 (xM HROW2.out hb3); have HRG3:=z8 (qP HRG2.out hb3); have HNX3:=z8 (z7 HNX2.out hb3); clear hb3)
     | (at_builtin; refine wpList_append_own _ rfl _ _ 45 rfl w.heap.size 9 i0 (.string ⟨#[]⟩) 1 16 Tryz.underlying45 hi hz0 hz1 hz2 rfl (by decide) _ _ _ rfl (HROW3.out.alloc _) ⟨w3.heap.size,0,none⟩ 1 1 [.string kv] rfl rfl (cell_one_new _ _ _) (by simp [Value.oneCell']) (by unfold maxLen at *; omega) (by omega) (by have:=HNX3.out.size; simp; omega) ?_; intro v' w4 hown' hg4 hnil4; have HOW:=z8 hown'; have HG4:=z8 hg4; clear hown' hg4 hnil4; go_frame)
     | go_in)
    have HRG4:=z8 ((HRG3.out.alloc _).kept HG4.out (row_ne_low HROW3.out hbl) (row_ne_iter HROW3.out HRG3.out))
    have ho:=HOW.out
    rw [← HKV.out] at ho
    have HB4:=z8 ((z7 HNX3.out (za (Below.refl _ _) _)).grown HG4.out (by have:=HNX3.out.size; simp; omega) (fun j hj=>(HROW3.out.lt j hj).1))
    have HO4:Hid (w4.ownsRow w.heap.size 9 1 v' (ss++[p.1]).length ((ss++[p.1]).map encStr)):=by
     show w4.ownsRow _ _ _ _ _ _
     simpa using ho
    clear ho
    go_roundw
    case rel=>exact ⟨_,cnt2,ss++[p.1],HRG4,by simp; omega,HO4,HC2,HB4⟩
    case measure=>rw [HRG4.out.left_eq]; exact HLT.out
   | false =>
    rw [hq] at HEV2
    have HC2:=z8 (HC.out.miss HR.out HPT.out hq)
    clear HC hq HLK
    generalize yT p.1=kv at *
    go_wp2_with (first
     | (go_at_call 246; (with_reducible refine HEV2.out.mono ?_); rintro e w3 ⟨rfl,hb3⟩; have HROW3:=z8 (xM HROW2.out hb3); have HRG3:=z8 (qP HRG2.out hb3); have HNX3:=z8 (z7 HNX2.out hb3); clear hb3)
     | go_in)
    go_roundw
    case rel=>exact ⟨_,cnt2,ss,HRG3,by omega,HROW3,HC2,HNX3⟩
    case measure=>rw [HRG3.out.left_eq]; exact HLT.out

set_option maxRecDepth 100000 in
theorem Zt (av:Value) (w:World):Calls Tryz.prog 204 #[.map none,av] w (yn [] w):=by
 have hrg:=run_range_nilMap (P:=Tryz.prog) w 165 9 208 Tryz.underlying165
 have hnx:∀ ty,(Instr.next (.pointer (some ⟨w.heap.size,0,none⟩)) false ty).run Tryz.prog (w.alloc (.mapIter none 0 #[] 0))=_:=fun ty=>run_next_nilMap _ ty 0 0 #[]
 have HSRT0:Hid (∀ cap W,Calls Tryz.prog 210 #[.slice none 0 cap,.func (.func 138) #[] #[]] W fun e w'=>e=.returned (.tuple #[])∧w'=W):=Zj
 have HB:=z8 (za (Below.refl w.heap.size w) (.mapIter none 0 #[] 0))
 go_enter Tryz.func204,Tryz.ntmps204
 go_wp2
 refine wp_loop_rounds 1 ?_
 rw [rounds_succ]
 go_wp2_with (go_at_call 210; (with_reducible refine (HSRT0.out _ _).mono ?_); rintro e w' ⟨rfl,rfl⟩)
 go_ret
 exact ⟨_,rfl,World.ownsRow_nil _ _ _ _,HB.out⟩

end Go.Proofs.YthmomkjingcbiaaGreatDoor
namespace Go.Proofs.YthmomkjingcbiaaGreatDoor
open Go.RowKit Go.Maps

theorem qv {n:List UInt8} (h:zm n=true):n.length≤12:=by
 unfold zm Zx at h
 simp only [Bool.and_eq_true,decide_eq_true_eq] at h
 exact h.1.1.2.1
theorem jc {s:ByteArray} (h:zm s.data.toList=true):s.size≤1000:=by
 have:=qv h
 rw [zh] at this
 omega

theorem vP.goes {w w2 w':World} {B b:Nat} {p:Option Nat} {T:zU} {k:List UInt8} {l:yA} (h:vP w2 B p (xA T k (b,l)) w') (hb:Below w.heap.size w w2) (hbn:w.heap.size≤b):yO w B p T (xA (zC T) k l) w':=by
 obtain ⟨p',hd,hp,ht⟩:=h
 refine ⟨p',_,hd,Ql T k (b,l),fun c e=>(hp c e).imp id (fun h=>Nat.le_trans hb.size h),fun x hx=>?_,(zb.of_below hb _).next ht (fun i _ h=>h.elim .inl (fun h=>.inr (.inl h)))⟩
 rcases yG.1 hx with rfl | ⟨hx,_⟩
 ·
  exact .inr hbn
 ·
  exact .inl ⟨x,hx,rfl⟩
theorem yO.set {w w1 w':World} {B:Nat} {p:Option Nat} {T:zU} (h:yh w B p T) (hb:Below w.heap.size w w1) {x:List UInt8×(Nat×yA)} (hx:x∈T) (f:yA→yA) (hs:yg w' x.2.1 (f x.2.2)) (ht:zb (fun i=>i=x.2.1) w1 w'):yO w B p T (Xq f (zC T) x.1) w':=by
 refine ⟨p,_,(h.later hb).turned hx f hs ht,Qk f T x.1,(fun _ e=>.inl e),fun y hy=>.inl ?_,(zb.of_below hb _).next ht (fun i _ e=>.inr (.inr ⟨x,hx,e.symm⟩))⟩
 obtain ⟨q,hq,rfl⟩:=js hy
 refine ⟨q,hq,?_⟩
 show q.2.1=(if q.1=x.1 then (q.2.1,f q.2.2) else q.2).1
 split <;> rfl
theorem at10 {T:zU} {k:List UInt8} (h:yW T k=true):∃ x∈T,x.1=k:=vy.1 h

set_option maxRecDepth 100000 in
theorem Uf (B:Nat) (p:Option Nat) (T:zU) (g:ByteArray) (w:World) (h:yh w B p T) (hf:T.length≤6) (hg:g.size≤9223372036854775807) :
  Calls Tryz.prog 114 #[.pointer (some ⟨B,0,none⟩),.string g] w fun e w'=>e=.returned (.int .i64 (qG (zC T) g.data.toList))∧yO w B p T (jd (zC T) g.data.toList) w':=by
 have HI:=z8 h
 have HB0:Hid (Below w.heap.size w (w.alloc (.cells #[.string g] 9))):=za (Below.refl _ _) _
 have HN:=z8 (qm w.heap.size g _ hg (show (w.alloc (.cells #[.string g] 9)).cell? ⟨w.heap.size,0,none⟩=some (.string g) by rw [World.cell?_alloc_at _ _ _ _ rfl]; rfl))
 have HLK:Hid (∀ W,Below w.heap.size w W→(Instr.lookup 165 (.map p) (.string g) true).run Tryz.prog W=.ok (.tuple #[.map (jR T g.data.toList),.bool (yW T g.data.toList)]) W):=fun W hb=>look10 (h.later hb) g (Nat.le_trans hg (by decide))
 have HLE:Hid (∀ W ty,Below w.heap.size w W→(Builtin.len_ #[165] ty #[.map p]).run Tryz.prog W=.ok (.int .i64 T.length) W):=fun W ty hb=>len10 (h.later hb) ty
 have hmm:=@run_makeMap Tryz.prog
 unfold jd qG
 rw [ja,Zy]
 have HPT:Hid (zm g.data.toList=true→∀ W,Below w.heap.size w W→Calls Tryz.prog 201 #[.pointer (some ⟨B,0,none⟩),.string g,.map (some W.heap.size)] (W.alloc (.map #[] 0)) fun e w'=>e=.returned (.tuple #[])∧yO w B p T (xA (zC T) g.data.toList []) w'):=fun hn W hb=>by
  have hb2:Below w.heap.size w (W.alloc (.map #[] 0)):=z7 hb (za (Below.refl _ _) _)
  refine (Qj B W.heap.size p T [] g _ (h.later hb2) (JM W) (fun x hx e=>?_) (fun e=>?_) (by omega) (jc hn)).mono fun e w' ⟨he,hp⟩=>⟨he,hp.goes hb2 hb.size⟩
  ·
   have:=h.slt x hx; have:=hb.size; omega
  ·
   have:=h.mlt _ e; have:=hb.size; omega
 clear h
 generalize jR T g.data.toList=o at *
 generalize yW T g.data.toList=b at *
 generalize zm g.data.toList=a at *
 generalize xA (zC T) g.data.toList []=S2 at *
 cases a with
 | false =>
  show Calls _ _ _ _ fun e w'=>e=.returned (.int .i64 10)∧yO w B p T (zC T) w'
  go_enter Tryz.func114,Tryz.ntmps114
  go_wp2_with fail
  with_reducible refine HN.out.mono ?_
  rintro e w1 ⟨rfl,hb⟩
  have HB:=z8 (z7 HB0.out hb)
  clear hb HN
  go_wp2
  go_ret
  exact ⟨rfl,yO.still HI.out HB.out⟩
 | true =>
  cases b with
  | true =>
   show Calls _ _ _ _ fun e w'=>e=.returned (.int .i64 9)∧yO w B p T (zC T) w'
   go_enter Tryz.func114,Tryz.ntmps114
   go_wp2_with fail
   with_reducible refine HN.out.mono ?_
   rintro e w1 ⟨rfl,hb⟩
   have hb1:=z7 HB0.out hb
   have HB:=z8 hb1
   have c1:=(HI.out.later hb1).cell
   have l1:=HLK.out _ hb1
   clear hb HN HLK hb1
   go_wp2
   go_ret
   exact ⟨rfl,yO.still HI.out HB.out⟩
  | false =>
   by_cases h6:6≤T.length
   ·
    have e7:(if true=true then if false=true then (9:Int) else if 6≤T.length then 7 else 0 else 10)=7:=by simp [h6]
    rw [e7,if_neg (by decide)]
    have z6:(T.length:Int) ≥ 6:=by omega
    have x6:decide ((T.length:Int) ≥ 6)=true:=decide_eq_true z6
    clear e7
    generalize hTL:T.length=tl at *
    have HTL:=z8 hTL
    clear hTL
    go_enter Tryz.func114,Tryz.ntmps114
    go_wp2_with fail
    with_reducible refine HN.out.mono ?_
    rintro e w1 ⟨rfl,hb⟩
    have hb1:=z7 HB0.out hb
    have HB:=z8 hb1
    have c1:=(HI.out.later hb1).cell
    have l1:=HLK.out _ hb1
    have l2:=fun ty=>HLE.out _ ty hb1
    clear hb HN HLK hb1 HLE
    go_wp2
    go_ret
    exact ⟨rfl,yO.still HI.out HB.out⟩
   ·
    have e0:(if true=true then if false=true then (9:Int) else if 6≤T.length then 7 else 0 else 10)=0:=by simp [h6]
    rw [e0,if_pos rfl]
    have z6:¬ (T.length:Int) ≥ 6:=by omega
    have x6:decide ((T.length:Int) ≥ 6)=false:=decide_eq_false z6
    have HP2:=z8 (HPT.out rfl)
    clear e0 HPT
    generalize hTL:T.length=tl at *
    have HTL:=z8 hTL
    clear hTL
    go_enter Tryz.func114,Tryz.ntmps114
    go_wp2_with fail
    with_reducible refine HN.out.mono ?_
    rintro e w1 ⟨rfl,hb⟩
    have hb1:=z7 HB0.out hb
    have c1:=(HI.out.later hb1).cell
    have l1:=HLK.out _ hb1
    have l2:=fun ty=>HLE.out _ ty hb1
    have HP3:=z8 (HP2.out _ hb1)
    clear hb HN HLK hb1 HLE HP2
    go_wp2_with fail
    with_reducible refine HP3.out.mono ?_
    rintro e w2 ⟨rfl,hg⟩
    have HG:=z8 hg
    clear hg HP3 c1 l1 l2
    go_wp2
    go_ret
    exact ⟨rfl,HG.out⟩


set_option maxRecDepth 100000 in
theorem Uj (B:Nat) (p:Option Nat) (T:zU) (g n:ByteArray) (w:World) (h:yh w B p T) (hl:∀ x∈T,x.2.2.length≤1000) (hg:g.size≤9223372036854775807) (hn:n.size≤9223372036854775807) :
  Calls Tryz.prog 162 #[.pointer (some ⟨B,0,none⟩),.string g,.string n] w fun e w'=>e=.returned (.int .i64 (jL (zC T) g.data.toList n.data.toList))∧yO w B p T (je (zC T) g.data.toList n.data.toList) w':=by
 have HI:=z8 h
 have hb0:Below w.heap.size w (w.alloc (.cells #[.string n] 9)):=za (Below.refl _ _) _
 have HFN:=z8 (Fz B p T g w.heap.size n _ (h.later hb0) hg hn (show (w.alloc (.cells #[.string n] 9)).cell? ⟨w.heap.size,0,none⟩=some (.string n) by rw [World.cell?_alloc_at _ _ _ _ rfl]; rfl))
 have HB0:=z8 hb0
 unfold je jL
 clear hb0
 by_cases hE:xY (zC T) g.data.toList [n.data.toList]=0
 ·
  obtain ⟨z1,z2,z3⟩:=fO hE
  rw [ja] at z3
  obtain ⟨x,hx,hxg⟩:=at10 z3
  have hsz:n.size≤1000:=jc (by simpa using z2)
  have hin:jM (zC T) g.data.toList n.data.toList=yW x.2.2 n.data.toList:=by
   unfold jM
   rw [← hxg,Qm h.rise hx]
  have hblk:jR T g.data.toList=some x.2.1:=by rw [← hxg]; exact FK h.rise hx
  rw [hE,hblk] at HFN
  rw [if_pos rfl] at HFN
  rw [hE,if_pos rfl,hin]
  have HLK:Hid (∀ W,Below w.heap.size w W→(Instr.lookup 208 (.map (some x.2.1)) (.string n) false).run Tryz.prog W=.ok (.bool (yW x.2.2 n.data.toList)) W):=fun W hb=>has10 ((h.sets x hx).kept (hb.block _ (h.slt x hx))) n (Nat.le_trans hn (by decide))
  have HDO:Hid (∀ W,Below w.heap.size w W→Calls Tryz.prog 224 #[.map (some x.2.1),.string n] W fun e w'=>e=.returned (.tuple #[])∧yO w B p T (Xq (fun l=>xA l n.data.toList ()) (zC T) x.1) w'):=fun W hb =>
   (Yg x.2.1 x.2.2 n W ((h.sets x hx).kept (hb.block _ (h.slt x hx))) (hl x hx) hsz).mono fun e w' ⟨he,h2,h3⟩=>⟨he,yO.set h hb hx (fun l=>xA l n.data.toList ()) h2 h3⟩
  clear h hE z1 z2 z3 hin hblk hsz hl
  rw [hxg] at HDO
  clear hx hxg
  generalize Xq (fun l=>xA l n.data.toList ()) (zC T) g.data.toList=S2 at *
  generalize yW x.2.2 n.data.toList=r at *
  generalize x.2.1=b at *
  cases r with
  | true =>
   show Calls _ _ _ _ fun e w'=>e=.returned (.int .i64 9)∧yO w B p T (zC T) w'
   go_enter Tryz.func162,Tryz.ntmps162
   go_wp2_with fail
   with_reducible refine HFN.out.mono ?_
   rintro e w1 ⟨rfl,hb⟩
   have hb1:=z7 HB0.out hb
   have HB:=z8 hb1
   have l1:=HLK.out _ hb1
   clear hb hb1 HFN HLK HDO
   go_wp2
   go_ret
   exact ⟨rfl,yO.still HI.out HB.out⟩
  | false =>
   show Calls _ _ _ _ fun e w'=>e=.returned (.int .i64 0)∧yO w B p T S2 w'
   go_enter Tryz.func162,Tryz.ntmps162
   go_wp2_with fail
   with_reducible refine HFN.out.mono ?_
   rintro e w1 ⟨rfl,hb⟩
   have hb1:=z7 HB0.out hb
   have l1:=HLK.out _ hb1
   have HD1:=z8 (HDO.out _ hb1)
   clear hb hb1 HFN HLK HDO
   go_wp2_with fail
   with_reducible refine HD1.out.mono ?_
   rintro e w2 ⟨rfl,hg⟩
   have HG:=z8 hg
   clear hg HD1 l1
   go_wp2
   go_ret
   exact ⟨rfl,HG.out⟩
 ·
  rw [if_neg hE,if_neg hE]
  rw [if_neg hE] at HFN
  clear h
  generalize xY (zC T) g.data.toList [n.data.toList]=r at *
  go_enter Tryz.func162,Tryz.ntmps162
  go_wp2_with fail
  with_reducible refine HFN.out.mono ?_
  rintro e w1 ⟨rfl,hb⟩
  have HB:=z8 (z7 HB0.out hb)
  clear hb HFN
  go_wp2
  go_ret
  exact ⟨rfl,yO.still HI.out HB.out⟩


set_option maxRecDepth 100000 in
theorem QZ (B:Nat) (p:Option Nat) (T:zU) (w:World) (h:yh w B p T) (hf:T.length≤1000) :
  Calls Tryz.prog 123 #[.pointer (some ⟨B,0,none⟩)] w (yn (ze (zC T)) w):=by
 have HRS:Hid (Calls Tryz.prog 204 #[.map p,.slice none 0 0] w (yn (ze (zC T)) w)):=by
  rw [jE]
  cases p with
  | none =>
   have:=h.nil rfl
   subst this
   exact Zt _ w
  | some m =>
   have:=jC m T (fun _=>true) (.slice none 0 0) w h.rise hf (h.map m rfl) (fun W' _ y _=>QK _ W')
   rwa [List.filter_eq_self.2 (fun _ _=>rfl)] at this
 have hc:=h.cell
 clear h
 generalize ze (zC T)=ls at *
 go_enter Tryz.func123,Tryz.ntmps123
 go_wp2_with fail
 with_reducible refine HRS.out.mono ?_
 rintro e w2 ⟨v,rfl,hr,hb⟩
 have HN:Hid (yn ls w (.returned v) w2):=⟨v,rfl,hr,hb⟩
 obtain ⟨A,c,rfl⟩:∃ A c,v=.slice A ls.length c:=by
  rcases hr.2 with ⟨rfl,hz⟩ | ⟨g,cap,cur,rfl,_⟩
  ·
   exact ⟨none,0,by rw [hz]⟩
  ·
   exact ⟨_,cap,rfl⟩
 clear hr hb HRS hc
 generalize hn:ls.length=n at *
 clear hn
 go_wp2
 go_ret
 exact HN.out

theorem of10_rows (T:zU) (n:List UInt8):ze (T.filter fun x=>yW x.2.2 n)=ud (zC T) n:=by
 unfold ud ofs10 zC ze
 rw [List.filter_map,List.map_map]
 rfl
def YOf10 (B:Nat) (p:Option Nat) (n:ByteArray) (ls:List (List UInt8)) (w:World):Nat→Value→World→Prop
 | 3,v,_=>v=.map p
 | 4,v,_=>v=.string n
 | 5,v,W=>∃ C,v=.func (.func 247) #[] #[.pointer (some ⟨C,0,none⟩)]∧W.cell? ⟨C,0,none⟩=some (.string n)
 | 6,v,W=>∃ A C,v=.slice (some ⟨A,0,none⟩) 1 1∧W.cell? ⟨A,0,none⟩=some (.func (.func 247) #[] #[.pointer (some ⟨C,0,none⟩)])∧W.cell? ⟨C,0,none⟩=some (.string n)
 | 7,v,W=>yn ls w (.returned v) W
 | 8,v,W=>yn ls w (.returned v) W
 | _,v,_=>v=.pointer (some ⟨B,0,none⟩)
theorem yn.later {ls:List (List UInt8)} {w W W':World} {e:Ending} (h:yn ls w e W) (hb:Below W.heap.size W W'):yn ls w e W':=by
 obtain ⟨v,he,hr,hbw⟩:=h
 exact ⟨v,he,xM hr hb,z7 hbw hb⟩
theorem fu {B:Nat} {p:Option Nat} {n:ByteArray} {ls:List (List UInt8)} {w W W':World} (hb:Below W.heap.size W W') (j:Nat) (u:Value) (h:YOf10 B p n ls w j u W):YOf10 B p n ls w j u W':=by
 have key:∀ (C:Nat) (v:Value),W.cell? ⟨C,0,none⟩=some v→W'.cell? ⟨C,0,none⟩=some v:=fun C v hC=>(hb.cell (p:=⟨C,0,none⟩) (World.block_lt_of_cell? W _ hC)).trans hC
 match j,h with
 | 0,h=>exact h
 | 1,h=>exact h
 | 2,h=>exact h
 | 3,h=>exact h
 | 4,h=>exact h
 | 5,h=>obtain ⟨C,e,hC⟩:=h; exact ⟨C,e,key C _ hC⟩
 | 6,h=>obtain ⟨A,C,e,hA,hC⟩:=h; exact ⟨A,C,e,key A _ hA,key C _ hC⟩
 | 7,h=>exact yn.later h hb
 | 8,h=>exact yn.later h hb
 | _+9,h=>exact h

set_option maxRecDepth 100000 in
theorem Fa (B:Nat) (p:Option Nat) (T:zU) (n:ByteArray) (w:World) (h:yh w B p T) (hf:T.length≤1000) (hn:n.size≤9223372036854775807) :
  Calls Tryz.prog 132 #[.pointer (some ⟨B,0,none⟩),.string n] w (yn (ud (zC T) n.data.toList) w):=by
 have HRS:Hid (∀ W A C,Below w.heap.size w W→W.cell? ⟨A,0,none⟩=some (.func (.func 247) #[] #[.pointer (some ⟨C,0,none⟩)])→W.cell? ⟨C,0,none⟩=some (.string n) →
   Calls Tryz.prog 204 #[.map p,.slice (some ⟨A,0,none⟩) 1 1] W (yn (ud (zC T) n.data.toList) W)):=fun W A C hb hA hC=>by
  have lA:A<W.heap.size:=World.block_lt_of_cell? W _ hA
  have lC:C<W.heap.size:=World.block_lt_of_cell? W _ hC
  rw [← of10_rows]
  cases p with
  | none =>
   have:=h.nil rfl
   subst this
   exact Zt _ W
  | some m =>
   exact jC m T (fun x=>yW x.2.2 n.data.toList) _ W h.rise hf ((h.later hb).map m rfl) (fun W' hb' y hy=>FB A C y.2.1 y.2.2 n W' (Nat.le_trans hn (by decide)) ((hb'.cell (p:=⟨A,0,none⟩) lA).trans hA) ((hb'.cell (p:=⟨C,0,none⟩) lC).trans hC) (((h.later hb).later hb').sets y hy))
 have HI:=z8 h
 have HFN:Hid (∀ W,Calls Tryz.prog 208 #[.string n] W fun e w'=>e=.returned (.func (.func 247) #[] #[.pointer (some ⟨W.heap.size,0,none⟩)])∧w'=W.alloc (.cells #[.string n] 9)):=fun W=>QA n W
 clear h
 generalize ud (zC T) n.data.toList=ls at *
 go_enter Tryz.func132,Tryz.ntmps132
 go_wp2_with fail
 refine yS (by kernel_rfl) (fun W=>Below w.heap.size w W) (YOf10 B p n ls w) ?F ?hF (by kernel_rfl) (by kernel_rfl) (zy (Below.refl _ _)) ?step ?fin
 case hF =>
  intro x
  simp only [List.map_cons,List.map_nil,xc,Act.put,List.setIfInBounds_toArray,List.set_cons_zero,List.set_cons_succ,Nat.zero_add,Nat.reduceAdd]
  exact rfl
 case step =>
  refine ⟨?_,?_,?_,?_,?_,?_,?_,?_,?_,trivial⟩
  all_goals intro x W hW hdep K hK
  ·
   clear hdep
   go_simp
   exact hK _ _ rfl hW (fun _ _ h=>h)
  ·
   have h0:x 0=_:=hdep 0 rfl
   clear hdep
   simp only [h0] at hK
   go_simp
   exact hK _ _ rfl hW (fun _ _ h=>h)
  ·
   have h1:x 1=_:=hdep 1 rfl
   clear hdep
   simp only [h1] at hK
   go_simp
   exact hK _ _ rfl hW (fun _ _ h=>h)
  ·
   have h2:x 2=_:=hdep 2 rfl
   have c:=(HI.out.later hW).cell
   clear hdep
   simp only [h2] at hK
   go_simp
   exact hK _ _ rfl hW (fun _ _ h=>h)
  ·
   clear hdep
   go_simp
   exact hK _ _ rfl hW (fun _ _ h=>h)
  ·
   have h4:x 4=_:=hdep 4 rfl
   have hc:=HFN.out W
   clear hdep
   simp only [h4] at hK
   go_simp
   refine hc.mono ?_
   rintro e W' ⟨rfl,rfl⟩
   have hb:Below W.heap.size W (W.alloc (.cells #[.string n] 9)):=za (Below.refl _ _) _
   exact hK _ _ ⟨W.heap.size,rfl,by rw [World.cell?_alloc_at _ _ _ _ rfl]; rfl⟩ (z7 hW hb) (fu hb)
  ·
   obtain ⟨C,h5,hC⟩:=(show YOf10 B p n ls w 5 (x 5) W from hdep 5 rfl)
   simp only [h5] at hK
   have lC:C<W.heap.size:=World.block_lt_of_cell? W _ hC
   clear hdep
   go_simp
   have hb:Below W.heap.size W (W.alloc (.cells #[.func (.func 247) #[] #[.pointer (some ⟨C,0,none⟩)]] 216)):=za (Below.refl _ _) _
   exact hK _ _ ⟨W.heap.size,C,rfl,by rw [World.cell?_alloc_at _ _ _ _ rfl]; rfl,(hb.cell (p:=⟨C,0,none⟩) lC).trans hC⟩ (z7 hW hb) (fu hb)
  ·
   have h3:x 3=_:=hdep 3 rfl
   obtain ⟨A,C,h6,hA,hC⟩:=(show YOf10 B p n ls w 6 (x 6) W from hdep 6 rfl)
   have hc:=HRS.out W A C hW hA hC
   simp only [h6] at hK
   clear hdep
   simp only [h3] at hK
   go_simp
   refine hc.mono ?_
   rintro e W' ⟨v,rfl,hr,hb⟩
   exact hK _ _ ⟨v,rfl,zx hr hW.size,z7 hW hb⟩ (z7 hW hb) (fu hb)
  ·
   have h7:yn ls w (.returned (x 7)) W:=hdep 7 rfl
   clear hdep
   go_simp
   exact hK _ _ h7 hW (fun _ _ h=>h)
 case fin =>
  intro x W hW hY
  have h8:yn ls w (.returned (x 8)) W:=hY 8 (by decide)
  obtain ⟨v,he,hr,hb⟩:=h8
  injection he with he
  have HN:Hid (yn ls w (.returned v) W):=⟨v,rfl,hr,hb⟩
  clear hY hW HI HFN HRS hr hb
  rw [he]
  go_wp2
  go_ret
  exact HN.out

theorem row10 {w:World} {base:Nat} {v:Value} {ls:List (List UInt8)} (h:w.ownsRow base 9 1 v ls.length (ls.map encStr)) :
  (v=.slice none 0 0∧ls=[])∨∃ g cap cur,v=.slice (some ⟨g,0,none⟩) ls.length cap∧base≤g∧w.heap[g]? = some (.cells cur 9 (0,0))∧∀ j (h:j<ls.length),cur[j]? = some (.string (yT ls[j])):=by
 rcases h.2 with ⟨rfl,hz⟩ | ⟨g,cap,cur,rfl,hb,hg,r1,r2,r3,r4⟩
 ·
  exact .inl ⟨rfl,List.eq_nil_of_length_eq_zero hz⟩
 ·
  refine .inr ⟨g,cap,cur,rfl,hb,hg,fun j hj=>?_⟩
  have h2:(List.take (ls.length * 1) cur.toList)[j]? = some (.string (yT ls[j])):=by rw [r4]; simp [hj,encStr,yT]
  rw [List.getElem?_take,if_pos (by omega)] at h2
  simpa using h2
theorem Ja {w wr:World} {base:Nat} {v:Value} {ls:List (List UInt8)} {S:Nat→Prop} (h:w.ownsRow base 9 1 v ls.length (ls.map encStr)) (ht:zb S w wr) (hS:∀ i c T fr,w.heap[i]? = some (.cells c T fr)→T=9→¬ S i) {k:Nat} (hk:k<ls.length) :
  ∃ g cap,v=.slice (some ⟨g,0,none⟩) ls.length cap∧wr.cell? ⟨g,k,none⟩=some (.string (yT ls[k])):=by
 rcases row10 h with ⟨_,rfl⟩ | ⟨g,cap,cur,rfl,_,hg,hc⟩
 ·
  exact absurd hk (Nat.not_lt_zero _)
 ·
  refine ⟨g,cap,rfl,?_⟩
  have h1:wr.heap[g]? = some (.cells cur 9 (0,0)):=(ht.block g (Array.getElem?_eq_some_iff.1 hg).1 (hS g _ _ _ hg rfl)).trans hg
  have h2:=hc k hk
  simp [World.cell?,h1,h2]
theorem uD {w:World} {base:Nat} {v:Value} {ls:List (List UInt8)} (h:w.ownsRow base 9 1 v ls.length (ls.map encStr)):∃ A c,v=.slice A ls.length c:=by
 rcases row10 h with ⟨rfl,rfl⟩ | ⟨g,cap,cur,rfl,_⟩
 ·
  exact ⟨none,0,rfl⟩
 ·
  exact ⟨_,cap,rfl⟩


def New10 (w W:World) (B:Nat) (p:Option Nat) (T:zU):Prop:=yh W B p T∧w.heap.size≤B∧(∀ b,p=some b→w.heap.size≤b)∧∀ x∈T,w.heap.size≤x.2.1
theorem vP.new {w W W':World} {B b:Nat} {p:Option Nat} {T:zU} {k:List UInt8} {l:yA} (h:vP W B p (xA T k (b,l)) W') (hn:New10 w W B p T) (hw:w.heap.size≤W.heap.size) (hb:w.heap.size≤b):∃ p',New10 w W' B p' (xA T k (b,l))∧zb (fun i=>i=B∨p=some i) W W':=by
 obtain ⟨p',hd,hp,ht⟩:=h
 obtain ⟨_,h1,h2,h3⟩:=hn
 refine ⟨p',⟨hd,h1,fun c e=>?_,fun x hx=>?_⟩,ht⟩
 ·
  rcases hp c e with e | e
  ·
   exact h2 c e
  ·
   exact Nat.le_trans hw e
 ·
  rcases yG.1 hx with rfl | ⟨hx,_⟩
  ·
   exact hb
  ·
   exact h3 x hx

end Go.Proofs.YthmomkjingcbiaaGreatDoor
namespace Go.Proofs.YthmomkjingcbiaaGreatDoor
open Go.ChangeShapes Go.WideShapes Go.ChangeAt Go.RowKit Go.Deep

section
variable {H:Type} {enc:TypeId×Value→H} {W:World} {base:Nat} {sp:Nat→Bool} {hd:Bool} {fuel:Nat}
end
end Go.Proofs.YthmomkjingcbiaaGreatDoor
namespace Go.Proofs.YthmomkjingcbiaaGreatDoor
open Go.RowKit Go.Maps

def uK (W w':World):Prop:=∀ (k:Nat) (c:Array Value) (T:TypeId) (fr:Nat×Nat),W.heap[k]? = some (.cells c T fr)→T≠167→w'.heap[k]? = some (.cells c T fr)
theorem uK.of_below {W w':World} (hb:Below W.heap.size W w'):uK W w':=fun k _ _ _ h _=>(hb.block k (Array.getElem?_eq_some_iff.1 h).1).trans h
theorem uK.trans {a b c:World} (h:uK a b) (k:uK b c):uK a c:=fun i x T fr hi hT=>k i x T fr (h i x T fr hi hT) hT
theorem yO.keeps {W w':World} {B:Nat} {p:Option Nat} {T:zU} {S':zw} (hd:yh W B p T) (hg:yO W B p T S' w'):uK W w':=by
 obtain ⟨_,_,_,_,_,_,ht⟩:=hg
 intro k c T fr hk hT
 refine (ht.block k (Array.getElem?_eq_some_iff.1 hk).1 ?_).trans hk
 rintro (rfl | e | ⟨x,hx,rfl⟩)
 ·
  rw [hd.blk] at hk
  injection hk with hk
  injection hk with _ h
  exact hT h.symm
 ·
  exact yu (hd.map k e) hk rfl
 ·
  exact yu (hd.sets x hx) hk rfl

section
variable {w0 W W':World} {B k:Nat} {S:zw}

end

def NmR (w:World) (v:Value) (N:List (List UInt8)):Prop:=w.ownsRow 0 9 1 v N.length (N.map encStr)
theorem Zz {w w':World} {b:Nat} {e size n:Nat} {v:Value} {xs:List Value} (h:w.ownsRow b e size v n xs) (hk:uK w w') (he:e≠167):w'.ownsRow b e size v n xs:=by
 refine ⟨h.1,?_⟩
 rcases h.2 with hn | ⟨g,cap,cur,e1,h0,hg,hr⟩
 ·
  exact .inl hn
 ·
  exact .inr ⟨g,cap,cur,e1,h0,hk g _ _ _ hg he,hr⟩
section
variable {w w':World} {v:Value} {N:List (List UInt8)} {M:List Who10}
theorem NmR.keeps (h:NmR w v N) (hk:uK w w'):NmR w' v N:=Zz h hk (by decide)
theorem NmR.later (h:NmR w v N) (hb:Below w.heap.size w w'):NmR w' v N:=xM h hb
theorem NmR.of {b:Nat} (h:w.ownsRow b 9 1 v N.length (N.map encStr)):NmR w v N:=zx h (Nat.zero_le _)
theorem NmR.nil (w:World):NmR w (.slice none 0 0) []:=World.ownsRow_nil _ _ _ _
theorem NmR.at_ (h:NmR w v N) {k:Nat} (hk:k<N.length):∃ g cap,v=.slice (some ⟨g,0,none⟩) N.length cap∧w.cell? ⟨g,k,none⟩=some (.string (yT N[k])) :=
 Ja h (zb.refl (fun _=>False) w) (fun _ _ _ _ _ _ f=>f) hk
theorem NmR.shape (h:NmR w v N):∃ A c,v=.slice A N.length c:=uD h
theorem NmR.src (h:NmR w v N):Src Tryz.prog 1 45 v N.length (N.map encStr) w:=by
 rcases h.2 with ⟨rfl,hz⟩ | ⟨g,cap,cur,rfl,hb,hg,r1,r2,r3,r4⟩
 ·
  have:N=[]:=List.eq_nil_of_length_eq_zero hz
  subst this
  exact Src.ofNil w Tryz.underlying45 0
 ·
  refine Src.ofSlice w Tryz.underlying45 _ _ _ _ h.1 (fun j u hu=>?_) (fun u hu=>by obtain ⟨x,_,rfl⟩:=List.mem_map.1 hu; rfl)
  have hj:j<N.length:=by have:=(List.getElem?_eq_some_iff.1 hu).1; simpa using this
  have h2:(List.take (N.length * 1) cur.toList)[j]? = some u:=by rw [r4]; exact hu
  rw [List.getElem?_take,if_pos (by omega)] at h2
  rw [Addr.add_lit,Nat.zero_add]
  simpa [World.cell?,hg] using h2
end

def qT (W:World) (b:Nat) (v1 v2:Value):Prop:=W.heap[b]? = some (.cells #[v1,v2] 178 (0,0))
section
variable {W W':World} {b:Nat} {v1 v2:Value}
theorem qT.c0 (h:qT W b v1 v2):W.cell? ⟨b,0,none⟩=some v1:=by simp [World.cell?,show W.heap[b]? = _ from h]
theorem qT.c1 (h:qT W b v1 v2):W.cell? ⟨b,1,none⟩=some v2:=by simp [World.cell?,show W.heap[b]? = _ from h]
theorem qT.f0 (h:qT W b v1 v2):W.frozen? ⟨b,0,none⟩=false:=by simp [World.frozen?,show W.heap[b]? = _ from h]
theorem qT.f1 (h:qT W b v1 v2):W.frozen? ⟨b,1,none⟩=false:=by simp [World.frozen?,show W.heap[b]? = _ from h]
theorem qT.lt (h:qT W b v1 v2):b<W.heap.size:=(Array.getElem?_eq_some_iff.1 h).1
theorem qT.later (h:qT W b v1 v2) (hb:Below W.heap.size W W'):qT W' b v1 v2:=(hb.block b h.lt).trans h
theorem qT.turns {S:Nat→Prop} (h:qT W b v1 v2) (ht:zb S W W') (hS:¬ S b):qT W' b v1 v2:=(ht.block b h.lt hS).trans h
end
theorem app10 {w1 wr w2:World} {e:TypeId} {size n:Nat} {v:Value} {xs:List Value} {o:Obj} (hb:Below w1.heap.size w1 wr) (hu:wr.ownsRow w1.heap.size e size v n xs) (hg:(wr.alloc o).grownBy w2 v.ownBlock):Below w1.heap.size w1 w2 :=
 (z7 hb (za (Below.refl _ _) _)).grown hg (by have:=hb.size; simp; omega) (fun j hj=>(hu.lt j hj).1)
theorem V6 (s:ByteArray):Proofs.encStr s.data.toList=.string s:=by
 show Value.string ⟨s.data.toList.toArray⟩=_
 simp
theorem eqs10 {a b:ByteArray} (h:a.data.toList=b.data.toList):(a.toList == b.toList)=true∧a.toList=b.toList:=by
 have:a.toList=b.toList:=by rw [Lib.toList_data,Lib.toList_data]; exact h
 exact ⟨by simpa using this,this⟩
theorem nes10 {a b:ByteArray} (h:¬ a.data.toList=b.data.toList):(a.toList == b.toList)=false∧¬ a.toList=b.toList:=by
 have:¬ a.toList=b.toList:=by rw [Lib.toList_data,Lib.toList_data]; exact h
 exact ⟨by simpa using this,this⟩

abbrev TG:TypeId:=178

def Vj (W w':World):Prop:=∀ (k:Nat) (c:Array Value) (T:TypeId) (fr:Nat×Nat),W.heap[k]? = some (.cells c T fr)→T≠TG→w'.heap[k]? = some (.cells c T fr)
theorem Vj.trans {a b c:World} (h:Vj a b) (k:Vj b c):Vj a c:=fun i x T fr hi hT=>k i x T fr (h i x T fr hi hT) hT
theorem Vj.of_below {W w':World} (hb:Below W.heap.size W w'):Vj W w':=fun k _ _ _ h _=>(hb.block k (Array.getElem?_eq_some_iff.1 h).1).trans h
theorem qT.keep {W:World} {b:Nat} {v1 v2:Value} (h:qT W b v1 v2) (i:Nat) (x:Value):Vj W (W.setCell ⟨b,i,none⟩ x):=fun k c T fr hk hT=>by
 refine (Below.heap_setCell _ _ _ _ (fun e=>hT ?_)).trans hk
 have e':k=b:=e
 rw [e',show W.heap[b]? = _ from h] at hk
 injection hk with hk
 injection hk with _ hk
 exact hk.symm
theorem qT.set0 {W:World} {b:Nat} {v1 v2:Value} (h:qT W b v1 v2) (x:Value):qT (W.setCell ⟨b,0,none⟩ x) b x v2:=by
 have h':W.heap[b]? = some (.cells #[v1,v2] TG (0,0)):=h
 have hl:=h.lt
 have:=h'
 rw [Array.getElem?_eq_getElem hl] at this
 injection this with this
 show (W.setCell ⟨b,0,none⟩ x).heap[b]? = _
 simp [World.setCell,hl,Array.getElem_modify,this]
theorem qT.set1 {W:World} {b:Nat} {v1 v2:Value} (h:qT W b v1 v2) (x:Value):qT (W.setCell ⟨b,1,none⟩ x) b v1 x:=by
 have h':W.heap[b]? = some (.cells #[v1,v2] TG (0,0)):=h
 have hl:=h.lt
 have:=h'
 rw [Array.getElem?_eq_getElem hl] at this
 injection this with this
 show (W.setCell ⟨b,1,none⟩ x).heap[b]? = _
 simp [World.setCell,hl,Array.getElem_modify,this]
theorem qT.other {W:World} {b c i:Nat} {v1 v2:Value} (h:qT W b v1 v2) (hne:b≠c) (x:Value):qT (W.setCell ⟨c,i,none⟩ x) b v1 v2:=(Below.heap_setCell _ _ _ _ hne).trans h
theorem Below.cellG {w wr:World} {b i:Nat} (hb:Below w.heap.size w wr) (h:w.heap.size≤b) (x:Value):Below w.heap.size w (wr.setCell ⟨b,i,none⟩ x):=hb.setCell (p:=⟨b,i,none⟩) h x
theorem Uz {w wr:World} {b:Nat} {u1 u2:Value} (hb:Below w.heap.size w wr) (hr:qT wr b u1 u2) (h:w.heap.size≤b) (x y:Value) :
  qT ((wr.setCell ⟨b,0,none⟩ x).setCell ⟨b,1,none⟩ y) b x y∧Below w.heap.size w ((wr.setCell ⟨b,0,none⟩ x).setCell ⟨b,1,none⟩ y)∧Vj wr ((wr.setCell ⟨b,0,none⟩ x).setCell ⟨b,1,none⟩ y) :=
 ⟨(hr.set0 x).set1 y,Below.cellG (Below.cellG hb h x) h y,(hr.keep 0 x).trans ((hr.set0 x).keep 1 y)⟩
theorem fin3 {w wr:World} {a b i:Nat} {v1 v2 u1 u2:Value} (hb:Below w.heap.size w wr) (hx:qT wr a v1 v2) (hr:qT wr b u1 u2) (ha:w.heap.size≤a) (h:w.heap.size≤b) (hab:b≠a) (f x y:Value) :
  qT (((wr.setCell ⟨a,i,none⟩ f).setCell ⟨b,0,none⟩ x).setCell ⟨b,1,none⟩ y) b x y∧Below w.heap.size w (((wr.setCell ⟨a,i,none⟩ f).setCell ⟨b,0,none⟩ x).setCell ⟨b,1,none⟩ y)∧Vj wr (((wr.setCell ⟨a,i,none⟩ f).setCell ⟨b,0,none⟩ x).setCell ⟨b,1,none⟩ y):=by
 obtain ⟨h1,h2,h3⟩:=Uz (Below.cellG hb ha f) (hr.other hab f (i:=i)) h x y
 exact ⟨h1,h2,(hx.keep i f).trans h3⟩



end Go.Proofs.YthmomkjingcbiaaGreatDoor
