/-
  The texts that the laws of this seat share, part 7: what the code and the document's own answers tell, walked function by function.
  Conditions: each theorem's own.
-/
import Derived.Maps.RangeWalk
import Derived.LoopN
import Derived.Maps.AppendAt
import Derived.Test.YteegkoicalbkbaaGreatDoorHosOBF
set_option maxHeartbeats 16000000
namespace Go.Proofs.YteegkoicalbkbaaGreatDoor
open Go.Maps

abbrev yT (V:Type):=List (List UInt8×V)
section
variable {V:Type}
def zG (L:yT V):Prop:=L.Pairwise (fun p q=>bytesBefore p.1 q.1=true)
def entV (e:V→DataW Unit) (p:List UInt8×V):Lit×DataW Unit:=(.string p.1,e p.2)
def uA (e:V→DataW Unit) (L:yT V):DataW Unit:=.map (L.map (entV e))
def QU (x:List UInt8×V):yT V→yT V
 | []=>[x]
 | y::r=>if bytesBefore x.1 y.1 then x::y::r else y::QU x r
def xK (L:yT V) (k:List UInt8):yT V:=L.filter (fun p=>!(p.1 == k))
def yR (L:yT V) (k:List UInt8) (v:V):yT V:=QU (k,v) (xK L k)
def zz (L:yT V) (k:List UInt8):Bool:=L.any (fun p=>p.1 == k)
def qn (L:yT V) (k:List UInt8):Option V:=(L.find? (fun p=>p.1 == k)).map (·.2)
def zc (L:yT V):List (List UInt8):=L.map (·.1)
def Yp (f:V→V) (L:yT V) (k:List UInt8):yT V:=L.map fun p=>if p.1=k then (p.1,f p.2) else p

theorem datV_ins (e:V→DataW Unit) (x:List UInt8×V):∀ L:yT V,(QU x L).map (entV e)=DataW.insert (entV e x) (L.map (entV e))
 | []=>rfl
 | y::r=>by
  simp only [QU,List.map_cons,DataW.insert]
  have h:(entV e x).1.before (entV e y).1=bytesBefore x.1 y.1:=rfl
  rw [h]
  cases bytesBefore x.1 y.1
  ·
   simp [datV_ins e x r]
  ·
   simp
theorem Jd (e:V→DataW Unit) (k:List UInt8):∀ L:yT V,(xK L k).map (entV e)=(L.map (entV e)).filter (fun p=>!p.1.sameKey (.string k))
 | []=>rfl
 | y::r=>by
  have ih:=Jd e k r
  unfold xK at ih ⊢
  have h:(entV e y).1.sameKey (.string k)=(y.1 == k):=rfl
  simp only [List.filter_cons,List.map_cons,h]
  cases (y.1 == k) <;> simp [ih]
theorem Jc (e:V→DataW Unit) (L:yT V) (k:List UInt8) (v:V):(uA e L).put (.string k) (e v)=uA e (yR L k v):=by
 unfold uA yR
 rw [datV_ins,Jd]; rfl
theorem Je (e:V→DataW Unit) (L:yT V) (k:List UInt8):(uA e L).del (.string k)=uA e (xK L k):=by
 unfold uA
 rw [Jd]; rfl
theorem Zv (e:V→DataW Unit) (L:yT V) (k:List UInt8):Maps.has (uA e L) (.string k)=zz L k:=by
 unfold uA zz
 rw [Maps.has_eq,List.any_map]; rfl
theorem datV_at (e:V→DataW Unit) (L:yT V) (k:List UInt8) (z:DataW Unit):(uA e L).atKey (.string k) z=match qn L k with | some v=>e v | none=>z:=by
 unfold uA qn
 unfold DataW.atKey
 simp only [List.find?_map]
 have h:((fun p:Lit×DataW Unit=>p.1.sameKey (.string k)) ∘ entV e)=(fun p:List UInt8×V=>p.1 == k):=rfl
 rw [h]
 cases L.find? (fun p=>p.1 == k) <;> rfl
theorem vy (e:V→DataW Unit) (L:yT V):Maps.size (uA e L)=L.length:=by simp [uA,Maps.size]
theorem datV_upd {e:V→DataW Unit} {f:V→V} (hf:∀ v,e (f v)=e v) (L:yT V) (k:List UInt8):uA e (Yp f L k)=uA e L:=by
 unfold uA Yp
 rw [List.map_map]
 congr 1
 refine List.map_congr_left fun p _=>?_
 show entV e (if p.1=k then (p.1,f p.2) else p)=entV e p
 split
 ·
  unfold entV; rw [hf]
 ·
  rfl

theorem QI {x y:List UInt8×V}:∀ {L:yT V},y∈QU x L↔y=x∨y∈L
 | []=>by simp [QU]
 | z::r=>by
  unfold QU
  split
  ·
   simp
  ·
   simp only [List.mem_cons,QI (L:=r)]
   constructor
   ·
    rintro (h | h | h)
    ·
     exact .inr (.inl h)
    ·
     exact .inl h
    ·
     exact .inr (.inr h)
   ·
    rintro (h | h | h)
    ·
     exact .inr (.inl h)
    ·
     exact .inl h
    ·
     exact .inr (.inr h)
theorem yz {L:yT V} {k:List UInt8} {p:List UInt8×V}:p∈xK L k↔p∈L∧p.1≠k:=by
 unfold xK; simp
theorem yJ {L:yT V} {k:List UInt8} {v:V} {p:List UInt8×V}:p∈yR L k v↔p=(k,v)∨(p∈L∧p.1≠k):=by
 unfold yR
 rw [QI,yz]
theorem yw {L:yT V} (h:zG L) (k:List UInt8):zG (xK L k):=h.filter _
theorem JQ {x:List UInt8×V}:∀ {L:yT V},zG L→(∀ p∈L,p.1≠x.1)→zG (QU x L)
 | [],_,_=>by simp [QU,zG]
 | y::r,h,hn=>by
  unfold QU
  obtain ⟨h1,h2⟩:=List.pairwise_cons.1 h
  split
  ·
   rename_i hb
   exact List.pairwise_cons.2 ⟨fun p hp=>by
    rcases List.mem_cons.1 hp with rfl | hp
    ·
     exact hb
    ·
     exact WideShapes.bytes_trans _ _ _ hb (h1 p hp),h⟩
  ·
   rename_i hb
   have hyx:bytesBefore y.1 x.1=true:=by
    rcases WideAt.bytes_total y.1 x.1 (hn y (by simp)) with h' | h'
    ·
     exact h'
    ·
     exact absurd h' hb
   exact List.pairwise_cons.2 ⟨fun p hp=>by
    rcases QI.1 hp with rfl | hp
    ·
     exact hyx
    ·
     exact h1 p hp,JQ h2 (fun p hp=>hn p (by simp [hp]))⟩
theorem xd {L:yT V} (h:zG L) (k:List UInt8) (v:V):zG (yR L k v) :=
 JQ (yw h k) (fun _ hp=>(yz.1 hp).2)
theorem qL (f:V→V) (L:yT V) (k:List UInt8):zc (Yp f L k)=zc L:=by
 unfold zc Yp
 rw [List.map_map]
 refine List.map_congr_left fun p _=>?_
 show (if p.1=k then (p.1,f p.2) else p).1=p.1
 split <;> rfl
theorem xq {W:Type} {L:yT V} {L':yT W} (h:zG L) (e:zc L'=zc L):zG L':=by
 have h1:(zc L).Pairwise (fun a b=>bytesBefore a b=true):=List.pairwise_map.2 h
 rw [← e] at h1
 exact List.pairwise_map.1 h1
theorem Xt {L:yT V} (h:zG L) (f:V→V) (k:List UInt8):zG (Yp f L k):=xq h (qL f L k)

theorem xV {L:yT V} {k:List UInt8}:zz L k=true↔∃ p∈L,p.1=k:=by simp [zz]
theorem yK {L:yT V} {k:List UInt8}:zz L k=true↔k∈zc L:=by
 rw [xV]
 simp [zc]
theorem fc {L:yT V} {k:List UInt8}:zz L k=false↔k∉zc L:=by
 rw [← yK]; simp
theorem Va {L:yT V} {k:List UInt8} (h:zz L k=false):xK L k=L:=by
 unfold xK; rw [List.filter_eq_self]
 intro p hp
 cases e:(p.1 == k)
 ·
  rfl
 ·
  have:zz L k=true:=xV.2 ⟨p,hp,by simpa using e⟩
  rw [h] at this; cases this
theorem fL (x:List UInt8×V):∀ L:yT V,(QU x L).length=L.length+1
 | []=>rfl
 | y::r=>by unfold QU; split <;> simp [fL x r]
theorem fR (L:yT V) (k:List UInt8):(xK L k).length≤L.length:=List.length_filter_le _ _
theorem delV_lt {L:yT V} {k:List UInt8} (h:zz L k=true):(xK L k).length<L.length:=by
 unfold xK
 obtain ⟨p,hp,e⟩:=xV.1 h
 rcases Nat.lt_or_ge (L.filter fun p=>!(p.1 == k)).length L.length with h1 | h1
 ·
  exact h1
 ·
  have h2:=List.filter_eq_self.1 (List.length_filter_eq_length_iff.1 (Nat.le_antisymm (List.length_filter_le _ _) h1) |> List.filter_eq_self.2)
  have:=h2 p hp
  simp [e] at this
theorem ZT (L:yT V) (k:List UInt8) (v:V):(yR L k v).length≤L.length+1:=by
 unfold yR
 rw [fL]
 have:=fR L k
 omega
theorem putV_has {L:yT V} {k:List UInt8} (v:V) (h:zz L k=true):(yR L k v).length≤L.length:=by
 unfold yR
 rw [fL]
 have:=delV_lt h
 omega
theorem yl {L:yT V} (hr:zG L) {k:List UInt8} {v:V}:qn L k=some v↔(k,v)∈L:=by
 induction L with
 | nil=>simp [qn]
 | cons y r ih =>
  obtain ⟨h1,h2⟩:=List.pairwise_cons.1 hr
  unfold qn at ih ⊢
  rw [List.find?_cons]
  by_cases e:y.1=k
  ·
   have e':(y.1 == k)=true:=by simpa using e
   simp only [e',Option.map_some,Option.some.injEq,List.mem_cons]
   constructor
   ·
    intro h; left; rw [← h,← e]
   ·
    rintro (h | h)
    ·
     rw [← h]
    ·
     exact absurd (h1 _ h) (by rw [e,zA]; exact Bool.noConfusion)
  ·
   have e':(y.1 == k)=false:=by simpa using e
   simp only [e',List.mem_cons]
   rw [ih h2]
   constructor
   ·
    exact .inr
   ·
    rintro (h | h)
    ·
     exact absurd (by rw [← h]) e
    ·
     exact h
theorem qO {L:yT V} {k:List UInt8}:qn L k=none↔zz L k=false:=by
 unfold qn zz
 rw [Option.map_eq_none_iff,List.find?_eq_none,List.any_eq_false]
theorem je {L:yT V} {k:List UInt8} (h:zz L k=true):∃ v,qn L k=some v:=by
 cases hg:qn L k
 ·
  rw [qO.1 hg] at h; cases h
 ·
  exact ⟨_,rfl⟩
theorem Xu {L:yT V} (hr:zG L) {p q:List UInt8×V} (hp:p∈L) (hq:q∈L) (e:p.1=q.1):p=q:=by
 have h1:=(yl hr (k:=p.1) (v:=p.2)).2 hp
 have h2:=(yl hr (k:=p.1) (v:=q.2)).2 (by rw [e]; exact hq)
 rw [h1] at h2
 injection h2 with h2
 exact Prod.ext e h2
theorem Ff {L:yT V} {k:List UInt8} {v:V} {x:List UInt8}:x∈zc (yR L k v)↔x=k∨x∈zc L:=by
 unfold zc
 simp only [List.mem_map,yJ]
 constructor
 ·
  rintro ⟨p,rfl | ⟨hp,_⟩,rfl⟩
  ·
   exact .inl rfl
  ·
   exact .inr ⟨p,hp,rfl⟩
 ·
  rintro (rfl | ⟨p,hp,rfl⟩)
  ·
   exact ⟨_,.inl rfl,rfl⟩
  ·
   by_cases e:p.1=k
   ·
    exact ⟨(k,v),.inl rfl,e.symm⟩
   ·
    exact ⟨p,.inr ⟨hp,e⟩,rfl⟩
theorem Fg {L:yT V} {k x:List UInt8}:x∈zc (xK L k)↔x∈zc L∧x≠k:=by
 unfold zc
 simp only [List.mem_map,yz]
 constructor
 ·
  rintro ⟨p,⟨hp,hn⟩,rfl⟩; exact ⟨⟨p,hp,rfl⟩,hn⟩
 ·
  rintro ⟨⟨p,hp,rfl⟩,hn⟩; exact ⟨p,⟨hp,hn⟩,rfl⟩
theorem uO {L:yT V} {k x:List UInt8} {v:V}:zz (yR L k v) x=true↔x=k∨zz L x=true:=by
 rw [yK,Ff,yK]
theorem uP {L:yT V} {k x:List UInt8}:zz (xK L k) x=true↔zz L x=true∧x≠k:=by
 rw [yK,Fg,yK]
theorem map_insV {W:Type} (f:V→W) (x:List UInt8×V):∀ L:yT V,(QU x L).map (fun p=>(p.1,f p.2))=QU (x.1,f x.2) (L.map fun p=>(p.1,f p.2))
 | []=>rfl
 | y::r=>by
  unfold QU
  simp only [List.map_cons]
  split <;> simp [map_insV f x r]
theorem map_delV {W:Type} (f:V→W) (L:yT V) (k:List UInt8):(xK L k).map (fun p=>(p.1,f p.2))=xK (L.map fun p=>(p.1,f p.2)) k:=by
 unfold xK
 rw [List.filter_map]
 rfl
theorem map_putV {W:Type} (f:V→W) (L:yT V) (k:List UInt8) (v:V):(yR L k v).map (fun p=>(p.1,f p.2))=yR (L.map fun p=>(p.1,f p.2)) k (f v):=by
 unfold yR
 rw [map_insV,map_delV]
theorem uu {W:Type} (f:V→W) (L:yT V):zc (L.map fun p=>(p.1,f p.2))=zc L:=by
 unfold zc
 rw [List.map_map]; rfl
theorem map_hasV {W:Type} (f:V→W) (L:yT V) (k:List UInt8):zz (L.map fun p=>(p.1,f p.2)) k=zz L k:=by
 unfold zz
 rw [List.any_map]; rfl
end

/-! ### rows of texts -/
def ux (l:List (List UInt8)):Prop:=l.Pairwise (fun a b=>bytesBefore a b=true)
theorem zG.names {V:Type} {L:yT V} (h:zG L):ux (zc L):=List.pairwise_map.2 h
theorem ur:∀ {a b:List (List UInt8)},ux a→ux b→(∀ x,x∈a↔x∈b)→a=b
 | [],[],_,_,_=>rfl
 | [],y::s,_,_,h=>absurd ((h y).2 (by simp)) (by simp)
 | x::r,[],_,_,h=>absurd ((h x).1 (by simp)) (by simp)
 | x::r,y::s,ha,hb,h=>by
  obtain ⟨a1,a2⟩:=List.pairwise_cons.1 ha
  obtain ⟨b1,b2⟩:=List.pairwise_cons.1 hb
  have e:x=y:=by
   rcases List.mem_cons.1 ((h x).1 (by simp)) with e | hx
   ·
    exact e
   ·
    rcases List.mem_cons.1 ((h y).2 (by simp)) with e | hy
    ·
     exact e.symm
    ·
     exact absurd (b1 _ hx) (by rw [vF (a1 _ hy)]; exact Bool.noConfusion)
  subst e
  rw [ur a2 b2 fun z=>?_]
  constructor
  ·
   intro hz
   rcases List.mem_cons.1 ((h z).1 (by simp [hz])) with e | h'
   ·
    subst e; exact absurd (a1 _ hz) (by rw [zA]; exact Bool.noConfusion)
   ·
    exact h'
  ·
   intro hz
   rcases List.mem_cons.1 ((h z).2 (by simp [hz])) with e | h'
   ·
    subst e; exact absurd (b1 _ hz) (by rw [zA]; exact Bool.noConfusion)
   ·
    exact h'
theorem JI {ls ss:List (List UInt8)} (hr:ux ls) (hp:ss.Perm ls) (le:List UInt8→List UInt8→Bool) (hle:∀ x y,le x y=!bytesBefore y x):ss.mergeSort le=ls:=by
 have:=Ur (L:=ls.map fun x=>(x,[])) (List.pairwise_map.2 (by exact hr)) (ss:=ss) (by rw [List.map_map]; exact (List.map_id ls).symm ▸ hp) le hle
 rw [this,List.map_map]
 exact List.map_id ls

def insT (s:List UInt8):List (List UInt8)→List (List UInt8)
 | []=>[s]
 | t::r=>if bytesBefore s t then s::t::r else t::insT s r
theorem QV {s x:List UInt8}:∀ {l:List (List UInt8)},x∈insT s l↔x=s∨x∈l
 | []=>by simp [insT]
 | t::r=>by
  unfold insT
  split
  ·
   simp
  ·
   simp only [List.mem_cons,QV (l:=r)]
   constructor
   ·
    rintro (h | h | h)
    ·
     exact .inr (.inl h)
    ·
     exact .inl h
    ·
     exact .inr (.inr h)
   ·
    rintro (h | h | h)
    ·
     exact .inr (.inl h)
    ·
     exact .inl h
    ·
     exact .inr (.inr h)
theorem Fw {s:List UInt8}:∀ {l:List (List UInt8)},ux l→s∉l→ux (insT s l)
 | [],_,_=>by simp [insT,ux]
 | t::r,h,hn=>by
  unfold insT
  obtain ⟨h1,h2⟩:=List.pairwise_cons.1 h
  split
  ·
   rename_i hb
   exact List.pairwise_cons.2 ⟨fun p hp=>by
    rcases List.mem_cons.1 hp with rfl | hp
    ·
     exact hb
    ·
     exact WideShapes.bytes_trans _ _ _ hb (h1 p hp),h⟩
  ·
   rename_i hb
   have hts:bytesBefore t s=true:=by
    rcases WideAt.bytes_total t s (fun e=>hn (by simp [e])) with h' | h'
    ·
     exact h'
    ·
     exact absurd h' hb
   exact List.pairwise_cons.2 ⟨fun p hp=>by
    rcases QV.1 hp with rfl | hp
    ·
     exact hts
    ·
     exact h1 p hp,Fw h2 (fun hp=>hn (by simp [hp]))⟩
def uJ (out:List (List UInt8)) (s:List UInt8):List (List UInt8):=if s∈out then out else insT s out
def Qi (l:List (List UInt8)):List (List UInt8):=l.foldl uJ []
theorem Qj {o:List (List UInt8)} (h:ux o) (s:List UInt8):ux (uJ o s):=by
 unfold uJ
 split
 ·
  exact h
 ·
  rename_i hn; exact Fw h hn
theorem JJ {o:List (List UInt8)} {s x:List UInt8}:x∈uJ o s↔x=s∨x∈o:=by
 unfold uJ
 split
 ·
  rename_i h
  constructor
  ·
   exact .inr
  ·
   rintro (rfl | h')
   ·
    exact h
   ·
    exact h'
 ·
  exact QV
theorem UO:∀ (l o:List (List UInt8)),ux o→ux (l.foldl uJ o)
 | [],_,h=>h
 | s::r,_,h=>UO r _ (Qj h s)
theorem FI {x:List UInt8}:∀ (l o:List (List UInt8)),x∈l.foldl uJ o↔x∈l∨x∈o
 | [],_=>by simp
 | s::r,o=>by
  show x∈r.foldl uJ (uJ o s)↔_
  rw [FI r,JJ]
  simp only [List.mem_cons]
  constructor
  ·
   rintro (h | h | h)
   ·
    exact .inl (.inr h)
   ·
    exact .inl (.inl h)
   ·
    exact .inr h
  ·
   rintro ((h | h) | h)
   ·
    exact .inr (.inl h)
   ·
    exact .inl h
   ·
    exact .inr (.inr h)
theorem Ut (l:List (List UInt8)):ux (Qi l):=UO l [] List.Pairwise.nil
theorem Xk {l:List (List UInt8)} {x:List UInt8}:x∈Qi l↔x∈l:=by
 unfold Qi
 rw [FI]; simp
theorem sortT_eq {l r:List (List UInt8)} (hr:ux r) (h:∀ x,x∈r↔x∈l):Qi l=r :=
 ur (Ut l) hr fun x=>by rw [Xk,h]

/-! ### groups,as the code has them -/
abbrev zK:=yT Unit
abbrev zo:=yT zK
def VS (S:zo) (g:List UInt8):zK:=(qn S g).getD []
def ue (S:zo) (g n:List UInt8):Bool:=zz (VS S g) n
def zZ (S:zo) (g:List UInt8) (l:List (List UInt8)):Int:=if zh g && l.all zh then (if zz S g then 0 else 8) else 10
def qE (S:zo) (g:List UInt8):Int:=if zh g then (if zz S g then 9 else if 6≤S.length then 7 else 0) else 10
def jr (S:zo) (g:List UInt8):zo:=if qE S g=0 then yR S g [] else S
def qg (S:zo) (g:List UInt8):Int:=zZ S g []
def fP (S:zo) (g:List UInt8):zo:=if qg S g=0 then xK S g else S
def qF (S:zo) (g n:List UInt8):Int:=if zZ S g [n]=0 then (if ue S g n then 9 else 0) else zZ S g [n]
def jb (S:zo) (g n:List UInt8):zo:=if qF S g n=0 then Yp (fun l=>yR l n ()) S g else S
def Y7 (S:zo) (g n:List UInt8):Int:=if zZ S g [n]=0 then (if ue S g n then 0 else 12) else zZ S g [n]
def Y6 (S:zo) (g n:List UInt8):zo:=if Y7 S g n=0 then Yp (fun l=>xK l n) S g else S
def fI (S:zo) (g:List UInt8):List (List UInt8):=if qg S g=0 then zc (VS S g) else []
def ofs10 (S:zo) (n:List UInt8):zo:=S.filter fun p=>zz p.2 n
def xc (S:zo) (n:List UInt8):List (List UInt8):=zc (ofs10 S n)
def Zd (S:zo) (o n:List UInt8):Int:=if zh n then (if n≠o∧xc S n≠[] then 9 else 0) else 10
def Zc (o n:List UInt8) (l:zK):zK:=if zz l o then yR (xK l o) n () else l
def ZQ (S:zo) (o n:List UInt8):zo:=if Zd S o n=0 then S.map (fun p=>(p.1,Zc o n p.2)) else S
def qY (S:zo) (n:List UInt8):zo:=S.map fun p=>(p.1,xK p.2 n)

structure zD (S:zo) (k:Nat):Prop where
 rise:zG S
 sets:∀ p∈S,zG p.2
 few:S.length≤6
 little:∀ p∈S,p.2.length≤k
 named:∀ p∈S,zh p.1=true
 whos:∀ p∈S,∀ m∈p.2,zh m.1=true
theorem zD.nil:zD [] 0:=⟨List.Pairwise.nil,(fun _ h=>nomatch h),by simp,(fun _ h=>nomatch h),(fun _ h=>nomatch h),(fun _ h=>nomatch h)⟩
theorem zD.mono {S:zo} {k k':Nat} (h:zD S k) (hk:k≤k'):zD S k':=⟨h.rise,h.sets,h.few,fun p hp=>Nat.le_trans (h.little p hp) hk,h.named,h.whos⟩

theorem qv {S:zo} (hr:zG S) {p:List UInt8×zK} (h:p∈S):VS S p.1=p.2:=by
 unfold VS
 rw [(yl hr).2 (show (p.1,p.2)∈S from h)]; rfl
theorem mem10_none {S:zo} {g:List UInt8} (h:zz S g=false):VS S g=[]:=by
 unfold VS
 rw [qO.2 h]; rfl
theorem xN {S:zo} (hr:zG S) {g n:List UInt8}:ue S g n=true↔∃ p∈S,p.1=g∧zz p.2 n=true:=by
 unfold ue
 constructor
 ·
  intro h
  cases hg:zz S g with
  | false=>rw [mem10_none hg] at h; cases h
  | true =>
   obtain ⟨p,hp,rfl⟩:=xV.1 hg
   rw [qv hr hp] at h
   exact ⟨p,hp,rfl,h⟩
 ·
  rintro ⟨p,hp,rfl,h⟩
  rw [qv hr hp]; exact h
theorem xl {S:zo} (hr:zG S) {g n:List UInt8}:g∈xc S n↔ue S g n=true:=by
 rw [xN hr]
 unfold xc ofs10 zc
 simp only [List.mem_map,List.mem_filter]
 constructor
 ·
  rintro ⟨p,⟨hp,h⟩,rfl⟩; exact ⟨p,hp,rfl,h⟩
 ·
  rintro ⟨p,hp,rfl,h⟩; exact ⟨p,⟨hp,h⟩,rfl⟩
theorem vc {S:zo} (hr:zG S) (n:List UInt8):ux (xc S n):=zG.names (hr.filter _)
theorem jW {S:zo} {g n:List UInt8} (h:g∈xc S n):g∈zc S:=by
 unfold xc ofs10 zc at h
 obtain ⟨p,hp,rfl⟩:=List.mem_map.1 h
 exact List.mem_map.2 ⟨p,(List.mem_filter.1 hp).1,rfl⟩
theorem ZV (S:zo) (n:List UInt8):(xc S n).length≤S.length:=by
 unfold xc ofs10 zc
 rw [List.length_map]
 exact List.length_filter_le _ _
theorem xu {V:Type} (L:yT V):(zc L).length=L.length:=List.length_map _

theorem FG {S:zo} {k:Nat} (h:zD S k) (g:List UInt8):zD (jr S g) k:=by
 unfold jr
 split
 case isFalse=>exact h
 case isTrue he =>
  unfold qE at he
  split at he
  case isFalse=>cases he
  case isTrue hn =>
  split at he
  ·
   cases he
  ·
   rename_i hh
   have hf:zz S g=false:=by simpa using hh
   split at he
   ·
    cases he
   ·
    rename_i h6
    refine ⟨xd h.rise g [],fun p hp=>?_,?_,fun p hp=>?_,fun p hp=>?_,fun p hp=>?_⟩
    ·
     rcases yJ.1 hp with rfl | ⟨hp,_⟩
     ·
      exact List.Pairwise.nil
     ·
      exact h.sets p hp
    ·
     have:=ZT S g []; omega
    ·
     rcases yJ.1 hp with rfl | ⟨hp,_⟩
     ·
      simp
     ·
      exact h.little p hp
    ·
     rcases yJ.1 hp with rfl | ⟨hp,_⟩
     ·
      exact hn
     ·
      exact h.named p hp
    ·
     rcases yJ.1 hp with rfl | ⟨hp,_⟩
     ·
      intro m hm; cases hm
     ·
      exact h.whos p hp
theorem V4 {S:zo} {k:Nat} (h:zD S k) (g:List UInt8):zD (fP S g) k:=by
 unfold fP
 split
 ·
  exact ⟨yw h.rise g,fun p hp=>h.sets p (yz.1 hp).1,Nat.le_trans (fR S g) h.few,fun p hp=>h.little p (yz.1 hp).1,fun p hp=>h.named p (yz.1 hp).1,fun p hp=>h.whos p (yz.1 hp).1⟩
 ·
  exact h
theorem good_upd {S:zo} {k k':Nat} (h:zD S k) (f:zK→zK) (g:List UInt8) (hk:k≤k') (hf:∀ l:zK,zG l→l.length≤k→zG (f l)∧(f l).length≤k') (hw:∀ l:zK,(∀ m∈l,zh m.1=true)→∀ m∈f l,zh m.1=true):zD (Yp f S g) k':=by
 refine ⟨Xt h.rise f g,fun p hp=>?_,by rw [Yp,List.length_map]; exact h.few,fun p hp=>?_,fun p hp=>?_,fun p hp=>?_⟩
 all_goals
  obtain ⟨q,hq,rfl⟩:=List.mem_map.1 hp
  have:=hf q.2 (h.sets q hq) (h.little q hq)
  by_cases e:q.1=g
  ·
   simp only [e,if_true]
   first | exact this.1 | exact this.2 | (rw [← e]; exact h.named q hq) | exact hw q.2 (h.whos q hq)
  ·
   simp only [e,if_false]
   first | exact h.sets q hq | exact Nat.le_trans (h.little q hq) hk | exact h.named q hq | exact h.whos q hq
theorem jE {S:zo} {k:Nat} (h:zD S k) (g n:List UInt8):zD (jb S g n) (k+1):=by
 unfold jb
 split
 ·
  rename_i he
  have hn:zh n=true:=by
   unfold qF at he
   split at he
   ·
    rename_i hz
    unfold zZ at hz
    split at hz
    ·
     rename_i hb
     simp only [List.all_cons,List.all_nil,Bool.and_true,Bool.and_eq_true] at hb
     exact hb.2
    ·
     cases hz
   ·
    rename_i hz; exact absurd he hz
  exact good_upd h _ g (by omega) (fun l hl hk=>⟨xd hl n (),by have:=ZT l n (); omega⟩) fun l hl m hm=>by
   rcases yJ.1 hm with rfl | ⟨hm,_⟩
   ·
    exact hn
   ·
    exact hl m hm
 ·
  exact h.mono (by omega)
theorem fd {S:zo} {k:Nat} (h:zD S k) (g n:List UInt8):zD (Y6 S g n) k:=by
 unfold Y6
 split
 ·
  exact good_upd h _ g (by omega) (fun l hl hk=>⟨yw hl n,Nat.le_trans (fR l n) hk⟩) fun l hl m hm=>hl m (yz.1 hm).1
 ·
  exact h
theorem ren10_rise {o n:List UInt8} {l:zK} (h:zG l):zG (Zc o n l):=by
 unfold Zc
 split
 ·
  exact xd (yw h o) n ()
 ·
  exact h
theorem ren10_le (o n:List UInt8) (l:zK):(Zc o n l).length≤l.length:=by
 unfold Zc
 split
 ·
  rename_i h
  have h1:=delV_lt h
  have h2:=ZT (xK l o) n ()
  omega
 ·
  exact Nat.le_refl _
theorem good_map {S:zo} {k:Nat} (h:zD S k) (f:zK→zK) (hf:∀ l:zK,zG l→zG (f l)∧(f l).length≤l.length) (hw:∀ l:zK,(∀ m∈l,zh m.1=true)→∀ m∈f l,zh m.1=true):zD (S.map fun p=>(p.1,f p.2)) k:=by
 refine ⟨xq h.rise (uu f S),fun p hp=>?_,by rw [List.length_map]; exact h.few,fun p hp=>?_,fun p hp=>?_,fun p hp=>?_⟩
 all_goals
  obtain ⟨q,hq,rfl⟩:=List.mem_map.1 hp
  have:=hf q.2 (h.sets q hq)
  first | exact this.1 | exact Nat.le_trans this.2 (h.little q hq) | exact h.named q hq | exact hw q.2 (h.whos q hq)
theorem jd {S:zo} {k:Nat} (h:zD S k) (o n:List UInt8):zD (ZQ S o n) k:=by
 unfold ZQ
 split
 ·
  rename_i he
  have hn:zh n=true:=by
   unfold Zd at he
   split at he
   ·
    assumption
   ·
    cases he
  exact good_map h _ (fun l hl=>⟨ren10_rise hl,ren10_le o n l⟩) fun l hl m hm=>by
   unfold Zc at hm
   split at hm
   ·
    rcases yJ.1 hm with rfl | ⟨hm,_⟩
    ·
     exact hn
    ·
     exact hl m (yz.1 hm).1
   ·
    exact hl m hm
 ·
  exact h
theorem V3 {S:zo} {k:Nat} (h:zD S k) (n:List UInt8):zD (qY S n) k:=good_map h _ (fun l hl=>⟨yw hl n,fR l n⟩) fun _ hl m hm=>hl m (yz.1 hm).1

abbrev jj:=List UInt8×List UInt8
def ft (l:List (List UInt8)) (s:List UInt8):Bool:=l.any fun t=>t == s
theorem qw {l:List (List UInt8)} {s:List UInt8}:ft l s=true↔s∈l:=by simp [ft]
def J9 (N:List (List UInt8)) (g:List UInt8):List (List UInt8):=N.filter fun s=>!(s == g)
def dropM (M:List jj) (g:List UInt8):List jj:=M.filter fun m=>!(m.1 == g)
def outM (M:List jj) (g n:List UInt8):List jj:=M.filter fun m=>!(m.1 == g) || !(m.2 == n)
def ofM (M:List jj) (n:List UInt8):List (List UInt8):=(M.filter fun m=>m.2 == n).map (·.1)
def renM (M:List jj) (o n:List UInt8):List jj:=M.map fun m=>if m.2 == o then (m.1,n) else m
def rmM (M:List jj) (n:List UInt8):List jj:=(Qi (ofM M n)).foldl (fun m g=>outM m g n) M

theorem Qv {M:List jj} {g n:List UInt8} {m:jj}:m∈outM M g n↔m∈M∧(m.1=g→m.2≠n):=by
 simp only [outM,List.mem_filter,Bool.or_eq_true,Bool.not_eq_true',beq_eq_false_iff_ne]
 constructor
 ·
  rintro ⟨h,h' | h'⟩
  ·
   exact ⟨h,fun e=>absurd e h'⟩
  ·
   exact ⟨h,fun _=>h'⟩
 ·
  rintro ⟨h,h'⟩
  refine ⟨h,?_⟩
  by_cases e:m.1=g
  ·
   exact .inr (h' e)
  ·
   exact .inl e
theorem JZ {n:List UInt8} {m:jj}:∀ (gs:List (List UInt8)) (M:List jj),m∈gs.foldl (fun m g=>outM m g n) M↔m∈M∧(m.1∈gs→m.2≠n)
 | [],M=>by simp
 | g::r,M=>by
  show m∈r.foldl (fun m g=>outM m g n) (outM M g n)↔_
  rw [JZ r,Qv]
  simp only [List.mem_cons]
  constructor
  ·
   rintro ⟨⟨h,h1⟩,h2⟩
   exact ⟨h,fun e=>e.elim h1 h2⟩
  ·
   rintro ⟨h,h1⟩
   exact ⟨⟨h,fun e=>h1 (.inl e)⟩,fun e=>h1 (.inr e)⟩
theorem ofM_mem {M:List jj} {g n:List UInt8}:g∈ofM M n↔(g,n)∈M:=by
 simp only [ofM,List.mem_map,List.mem_filter,beq_iff_eq]
 constructor
 ·
  rintro ⟨m,⟨hm,rfl⟩,rfl⟩; exact hm
 ·
  intro h; exact ⟨_,⟨h,rfl⟩,rfl⟩
theorem rmM_mem {M:List jj} {n:List UInt8} {m:jj}:m∈rmM M n↔m∈M∧m.2≠n:=by
 unfold rmM
 rw [JZ,Xk,ofM_mem]
 constructor
 ·
  rintro ⟨h,h1⟩
  refine ⟨h,fun e=>?_⟩
  exact h1 (by rw [← e]; exact h) e
 ·
  rintro ⟨h,h1⟩; exact ⟨h,fun _=>h1⟩

structure uD (S:zo) (N:List (List UInt8)) (M:List jj):Prop where
 names:N=zc S
 mem:∀ g n,(g,n)∈M↔ue S g n=true

section
variable {S:zo} {N:List (List UInt8)} {M:List jj} {k:Nat}
theorem uD.nil:uD [] [] []:=⟨rfl,fun _ _=>by simp [ue,VS,qn,zz]⟩
theorem uD.has (h:uD S N M) (g:List UInt8):ft N g=zz S g:=by
 rw [Bool.eq_iff_iff,qw,yK,h.names]
theorem uD.len (h:uD S N M):N.length=S.length:=by rw [h.names,xu]

theorem in10_put (hr:zG S) {g:List UInt8} (hh:zz S g=false) (g' n:List UInt8):ue (yR S g []) g' n=ue S g' n:=by
 rw [Bool.eq_iff_iff,xN (xd hr g []),xN hr]
 constructor
 ·
  rintro ⟨p,hp,rfl,h⟩
  rcases yJ.1 hp with rfl | ⟨hp,_⟩
  ·
   cases h
  ·
   exact ⟨p,hp,rfl,h⟩
 ·
  rintro ⟨p,hp,rfl,h⟩
  exact ⟨p,yJ.2 (.inr ⟨hp,fun e=>by rw [fc] at hh; exact hh (by rw [← e]; exact List.mem_map.2 ⟨p,hp,rfl⟩)⟩),rfl,h⟩
theorem in10_del (hr:zG S) (g g' n:List UInt8):ue (xK S g) g' n=true↔ue S g' n=true∧g'≠g:=by
 rw [xN (yw hr g),xN hr]
 constructor
 ·
  rintro ⟨p,hp,rfl,h⟩
  obtain ⟨h1,h2⟩:=yz.1 hp
  exact ⟨⟨p,h1,rfl,h⟩,h2⟩
 ·
  rintro ⟨⟨p,hp,rfl,h⟩,h2⟩
  exact ⟨p,yz.2 ⟨hp,h2⟩,rfl,h⟩
theorem in10_upd (hr:zG S) (f:zK→zK) (g g' n:List UInt8):ue (Yp f S g) g' n=true↔∃ p∈S,p.1=g'∧zz (if g'=g then f p.2 else p.2) n=true:=by
 rw [xN (Xt hr f g)]
 constructor
 ·
  rintro ⟨q,hq,rfl,h⟩
  obtain ⟨p,hp,rfl⟩:=List.mem_map.1 hq
  refine ⟨p,hp,?_⟩
  by_cases e:p.1=g
  ·
   simp only [e,if_true] at h ⊢; exact ⟨trivial,h⟩
  ·
   simp only [e,if_false] at h ⊢; exact ⟨trivial,h⟩
 ·
  rintro ⟨p,hp,rfl,h⟩
  refine ⟨_,List.mem_map.2 ⟨p,hp,rfl⟩,?_⟩
  by_cases e:p.1=g
  ·
   simp only [e,if_true] at h ⊢; exact ⟨trivial,h⟩
  ·
   simp only [e,if_false] at h ⊢; exact ⟨trivial,h⟩
theorem J0 (hr:zG S) (f:zK→zK) (g n:List UInt8):ue (S.map fun p=>(p.1,f p.2)) g n=true↔∃ p∈S,p.1=g∧zz (f p.2) n=true:=by
 rw [xN (xq hr (uu f S))]
 constructor
 ·
  rintro ⟨q,hq,rfl,h⟩
  obtain ⟨p,hp,rfl⟩:=List.mem_map.1 hq
  exact ⟨p,hp,rfl,h⟩
 ·
  rintro ⟨p,hp,rfl,h⟩
  exact ⟨_,List.mem_map.2 ⟨p,hp,rfl⟩,rfl,h⟩

theorem UE {g:List UInt8} (h:qE S g=0):zh g=true∧zz S g=false∧S.length<6:=by
 unfold qE at h
 split at h
 case isFalse=>cases h
 case isTrue hn =>
 split at h
 ·
  cases h
 ·
  rename_i hh
  split at h
  ·
   cases h
  ·
   exact ⟨hn,by simpa using hh,by omega⟩
theorem qy {g:List UInt8} {l:List (List UInt8)} (h:zZ S g l=0):zh g=true∧l.all zh=true∧zz S g=true:=by
 unfold zZ at h
 split at h
 case isFalse=>cases h
 case isTrue hn =>
 split at h
 ·
  rename_i hh
  simp only [Bool.and_eq_true] at hn
  exact ⟨hn.1,hn.2,hh⟩
 ·
  cases h
theorem joE10_zero {g n:List UInt8} (h:qF S g n=0):zZ S g [n]=0∧ue S g n=false:=by
 unfold qF at h
 split at h
 case isFalse hf=>exact absurd h hf
 case isTrue hf =>
 split at h
 ·
  cases h
 ·
  rename_i hi; exact ⟨hf,by simpa using hi⟩
theorem reE10_zero {o n:List UInt8} (h:Zd S o n=0):zh n=true∧(n≠o→xc S n=[]):=by
 unfold Zd at h
 split at h
 case isFalse=>cases h
 case isTrue hn =>
 split at h
 ·
  cases h
 ·
  rename_i hi
  refine ⟨hn,fun e=>?_⟩
  by_cases e2:xc S n=[]
  ·
   exact e2
  ·
   exact absurd ⟨e,e2⟩ hi

theorem uD.make (h:uD S N M) (hg:zD S k) {g:List UInt8} (he:qE S g=0):uD (jr S g) (Qi (N++[g])) M:=by
 obtain ⟨hn,hh,h6⟩:=UE he
 unfold jr
 rw [if_pos he]
 refine ⟨sortT_eq (xd hg.rise g []).names fun x=>?_,fun g' n=>by rw [h.mem,in10_put hg.rise hh]⟩
 rw [Ff,h.names]
 simp [or_comm]
theorem uD.drop (h:uD S N M) (hg:zD S k) {g:List UInt8} (he:qg S g=0):uD (fP S g) (J9 N g) (dropM M g):=by
 unfold fP
 rw [if_pos he]
 refine ⟨ur ?_ (yw hg.rise g).names fun x=>?_,fun g' n=>?_⟩
 ·
  rw [h.names]; exact hg.rise.names.filter _
 ·
  rw [Fg,h.names]; simp [J9]
 ·
  rw [in10_del hg.rise,← h.mem]
  simp [dropM]
theorem uD.join (h:uD S N M) (hg:zD S k) {g n:List UInt8} (he:qF S g n=0):uD (jb S g n) N (M++[(g,n)]):=by
 obtain ⟨hf,hi⟩:=joE10_zero he
 obtain ⟨_,_,hh⟩:=qy hf
 unfold jb
 rw [if_pos he]
 refine ⟨by rw [h.names,qL],fun g' n'=>?_⟩
 rw [in10_upd hg.rise,List.mem_append,h.mem,xN hg.rise,List.mem_singleton]
 constructor
 ·
  rintro (⟨p,hp,rfl,h'⟩ | e)
  ·
   refine ⟨p,hp,rfl,?_⟩
   split
   ·
    exact uO.2 (.inr h')
   ·
    exact h'
  ·
   injection e with e1 e2
   subst e1 e2
   obtain ⟨p,hp,e⟩:=xV.1 hh
   exact ⟨p,hp,e,by simp [uO]⟩
 ·
  rintro ⟨p,hp,rfl,h'⟩
  by_cases e:p.1=g
  ·
   rw [if_pos e] at h'
   rcases uO.1 h' with h' | h'
   ·
    right; rw [e,h']
   ·
    exact .inl ⟨p,hp,rfl,h'⟩
  ·
   rw [if_neg e] at h'
   exact .inl ⟨p,hp,rfl,h'⟩
theorem uD.leave (h:uD S N M) (hg:zD S k) {g n:List UInt8} (he:Y7 S g n=0):uD (Y6 S g n) N (outM M g n):=by
 unfold Y6
 rw [if_pos he]
 refine ⟨by rw [h.names,qL],fun g' n'=>?_⟩
 rw [in10_upd hg.rise,Qv,h.mem,xN hg.rise]
 constructor
 ·
  rintro ⟨⟨p,hp,rfl,h'⟩,h2⟩
  refine ⟨p,hp,rfl,?_⟩
  split
  ·
   rename_i e; exact uP.2 ⟨h',h2 e⟩
  ·
   exact h'
 ·
  rintro ⟨p,hp,rfl,h'⟩
  by_cases e:p.1=g
  ·
   rw [if_pos e] at h'
   have:=uP.1 h'
   exact ⟨⟨p,hp,rfl,this.1⟩,fun _=>this.2⟩
  ·
   rw [if_neg e] at h'
   exact ⟨⟨p,hp,rfl,h'⟩,fun e'=>absurd e' e⟩
theorem uD.remove (h:uD S N M) (hg:zD S k) (n:List UInt8):uD (qY S n) N (rmM M n):=by
 refine ⟨by rw [h.names]; exact (uu _ S).symm,fun g' n'=>?_⟩
 unfold qY
 rw [J0 hg.rise (fun l=>xK l n),rmM_mem,h.mem,xN hg.rise]
 constructor
 ·
  rintro ⟨⟨p,hp,rfl,h'⟩,h2⟩; exact ⟨p,hp,rfl,uP.2 ⟨h',h2⟩⟩
 ·
  rintro ⟨p,hp,rfl,h'⟩
  have:=uP.1 h'
  exact ⟨⟨p,hp,rfl,this.1⟩,this.2⟩
theorem Xx {o n x:List UInt8} {l:zK}:zz (Zc o n l) x=true↔(zz l o=true∧(x=n∨(zz l x=true∧x≠o)))∨(zz l o=false∧zz l x=true):=by
 unfold Zc
 cases ho:zz l o
 ·
  simp
 ·
  simp [uO,uP]
theorem uD.rename (h:uD S N M) (hg:zD S k) {o n:List UInt8} (he:Zd S o n=0):uD (ZQ S o n) N (renM M o n):=by
 obtain ⟨hn,hne⟩:=reE10_zero he
 unfold ZQ
 rw [if_pos he]
 refine ⟨by rw [h.names]; exact (uu _ S).symm,fun g' n'=>?_⟩
 rw [J0 hg.rise (Zc o n)]
 simp only [renM,List.mem_map]
 constructor
 ·
  rintro ⟨m,hm,e⟩
  obtain ⟨a,b⟩:=m
  obtain ⟨p,hp,e1,h'⟩:=(xN hg.rise).1 ((h.mem a b).1 hm)
  by_cases eb:b=o
  ·
   subst eb
   simp only [beq_self_eq_true,if_true] at e
   injection e with e2 e3
   subst e2 e3
   exact ⟨p,hp,e1,Xx.2 (.inl ⟨h',.inl rfl⟩)⟩
  ·
   have:(b == o)=false:=by simpa using eb
   simp only [this,Bool.false_eq_true,if_false] at e
   injection e with e2 e3
   subst e2 e3
   refine ⟨p,hp,e1,Xx.2 ?_⟩
   cases ho:zz p.2 o
   ·
    exact .inr ⟨rfl,h'⟩
   ·
    exact .inl ⟨rfl,.inr ⟨h',eb⟩⟩
 ·
  rintro ⟨p,hp,rfl,h'⟩
  rcases Xx.1 h' with ⟨ho,e | ⟨hx,hxo⟩⟩ | ⟨ho,hx⟩
  ·
   subst e
   exact ⟨(p.1,o),(h.mem _ _).2 ((xN hg.rise).2 ⟨p,hp,rfl,ho⟩),by simp⟩
  ·
   exact ⟨(p.1,n'),(h.mem _ _).2 ((xN hg.rise).2 ⟨p,hp,rfl,hx⟩),by simp [hxo]⟩
  ·
   refine ⟨(p.1,n'),(h.mem _ _).2 ((xN hg.rise).2 ⟨p,hp,rfl,hx⟩),?_⟩
   have:n'≠o:=fun e=>by rw [e,ho] at hx; cases hx
   simp [this]

/-! ### what the laws ask -/
theorem removed10 (hr:zG S) (n:List UInt8):xc (qY S n) n=[]:=by
 refine List.eq_nil_iff_forall_not_mem.2 fun g hm=>?_
 unfold qY at hm
 rw [xl (xq hr (uu (fun l:zK=>xK l n) S)),J0 hr (fun l=>xK l n)] at hm
 obtain ⟨p,hp,_,h⟩:=hm
 exact (uP.1 h).2 rfl
theorem XU (g n:List UInt8):zc (jb S g n)=zc S:=by
 unfold jb
 split
 ·
  exact qL _ S g
 ·
  rfl
end
end Go.Proofs.YteegkoicalbkbaaGreatDoor
namespace Go.Proofs.YteegkoicalbkbaaGreatDoor
open Go.RowKit Go.Maps

theorem vT {H:Type} {w:World} {P:Program} {k:TypeId} {R:Value→Option (DataW H×List MemPlace)} {b n:Nat} {D:DataW H} (h:w.ownsMap P k R b n D):w.ownsMap P k R b (Maps.size D) D:=by
 obtain ⟨es,clock,hb,F,_,rfl⟩:=h
 have e1:Maps.size (DataW.map ((es.toList.map (WideElems.rg P k R)).foldr DataW.insert []))=es.size:=by simp [Maps.size,length_sorted]
 exact ⟨es,clock,hb,F,by rw [e1]; exact Nat.le_refl _,rfl⟩
theorem xF:Keyed Tryz.prog 9:=string_keyed Tryz.underlying9
theorem Zl (s:ByteArray) (h:s.size≤maxLen):keyOf Tryz.prog 9 (.string s)=some (.string s.data.toList):=WideMaps.keyOf_string_mk Tryz.underlying9 h
theorem zerob10 (w:World):(zeroValue 4).run Tryz.prog w=.ok (.bool false) w:=by kernel_rfl
theorem Q3 (w:World):(zeroValue 274).run Tryz.prog w=.ok (.map none) w:=by kernel_rfl
def yf (l:List UInt8):ByteArray:=⟨l.toArray⟩
theorem zT (l:List UInt8):(yf l).data.toList=l:=by simp [yf]
theorem uV (s:ByteArray):yf s.data.toList=s:=by simp [yf]
theorem xO (l:List UInt8):(yf l).size=l.length:=by rw [← zx,zT]

/-! ### a set of names -/
def et10:Unit→DataW Unit:=fun _=>.lit (.bool true)
def zV (w:World) (b:Nat) (L:zK):Prop:=w.ownsMap Tryz.prog 9 (plainElem Tryz.prog 4) b L.length (uA et10 L)
theorem zV.of {w:World} {b n:Nat} {L:zK} (h:w.ownsMap Tryz.prog 9 (plainElem Tryz.prog 4) b n (uA et10 L)):zV w b L:=by
 have:=vT h
 rwa [vy] at this
theorem zV.kept {w w':World} {b:Nat} {L:zK} (h:zV w b L) (hb:w'.heap[b]? = w.heap[b]?):zV w' b L:=by
 obtain ⟨es,clock,h1,r⟩:=h
 exact ⟨es,clock,hb.trans h1,r⟩
theorem jC {v:Value} {z:DataW Unit×List MemPlace} (h:plainElem Tryz.prog 4 v=some z):∃ c,v=.bool c∧z=(.lit (.bool c),[]):=by
 cases v <;> simp [plainElem,Tryz.underlying4] at h
 exact ⟨_,rfl,h.symm⟩
theorem Jq {V:Type} {e:V→DataW Unit} {L:yT V} {k:List UInt8} (z:DataW Unit) (h:qn L k=none):(uA e L).atKey (.string k) z=z:=by
 rw [datV_at,h]
theorem X8 {V:Type} {e:V→DataW Unit} {L:yT V} {k:List UInt8} {v:V} (z:DataW Unit) (h:qn L k=some v):(uA e L).atKey (.string k) z=e v:=by
 rw [datV_at,h]
theorem at_unit10 (L:zK) (k:List UInt8):(uA et10 L).atKey (.string k) (.lit (.bool false))=.lit (.bool (zz L k)):=by
 cases h:qn L k with
 | none=>rw [Jq _ h,qO.1 h]
 | some v =>
  have:zz L k=true:=by
   cases hh:zz L k
   ·
    rw [qO.2 hh] at h; cases h
   ·
    rfl
  rw [X8 _ h,this]; rfl
theorem has10 {w:World} {b:Nat} {L:zK} (h:zV w b L) (s:ByteArray) (hs:s.size≤maxLen) :
  (Instr.lookup 274 (.map (some b)) (.string s) false).run Tryz.prog w=.ok (.bool (zz L s.data.toList)) w:=by
 obtain ⟨v,ps,hrun,hv⟩:=h.lookup xF Tryz.underlying274 (zerob10 w) (plainElem_bool (H:=Unit) Tryz.underlying4 false) (Zl s hs)
 obtain ⟨c,rfl,hc⟩:=jC hv
 rw [hrun]
 have hc':(uA et10 L).atKey (.string s.data.toList) (.lit (.bool false))=.lit (.bool c):=congrArg Prod.fst hc
 rw [at_unit10] at hc'
 have:zz L s.data.toList=c:=by simpa using hc'
 rw [this]
theorem drop10 {w:World} {b:Nat} {L:zK} (h:zV w b L) (s:ByteArray) (hs:s.size≤maxLen) (ty:TypeId) :
  ∃ w',(Builtin.delete_ #[274,9] ty #[.map (some b),.string s]).run Tryz.prog w=.ok (.tuple #[]) w'∧zV w' b (xK L s.data.toList)∧w.mapTurned w' b:=by
 obtain ⟨w',hrun,hown,ht⟩:=h.drop xF Tryz.underlying274 (Zl s hs) ty
 rw [Je] at hown
 exact ⟨w',hrun,zV.of hown,ht⟩
theorem add10 {w:World} {b:Nat} {L:zK} (h:zV w b L) (hf:L.length≤1000) (s:ByteArray) (hs:s.size≤maxLen) :
  ∃ w',(Instr.mapUpdate 274 (.map (some b)) (.string s) (.bool true)).run Tryz.prog w=.ok () w'∧zV w' b (yR L s.data.toList ())∧w.mapTurned w' b:=by
 obtain ⟨w',hrun,hown,ht⟩:=h.store xF Tryz.underlying274 (Nat.lt_of_le_of_lt hf (by decide)) (Zl s hs) (plainElem_bool (H:=Unit) Tryz.underlying4 true)
 have e:uA et10 (yR L s.data.toList ())=(uA et10 L).put (.string s.data.toList) (et10 ()):=(Jc et10 L _ ()).symm
 exact ⟨w',hrun,zV.of (by rw [e]; exact hown),ht⟩
theorem set10_made (w:World):zV (w.alloc (.map #[] 0)) w.heap.size [] :=
 zV.of (n:=0) (World.ownsMap_made (H:=Unit) w Tryz.prog 9 (plainElem Tryz.prog 4))

/-! ### groups -/
abbrev zp:=yT (Nat×zK)
def R10:Value→Option (DataW Unit×List MemPlace)
 | .map (some b)=>some (.lit (.int .i64 b),[])
 | .map none=>some (.nil,[])
 | _=>none
def U0:Nat×zK→DataW Unit:=fun p=>.lit (.int .i64 p.1)
def z8 (T:zp):zo:=T.map fun p=>(p.1,p.2.2)
def qh (T:zp) (g:List UInt8):Option Nat:=(qn T g).map (·.1)
def ob10:Option Nat→DataW Unit
 | some b=>.lit (.int .i64 b)
 | none=>.nil
theorem X5 {o o':Option Nat} (h:ob10 o=ob10 o'):o=o':=by
 cases o with
 | none=>cases o' with
  | none=>rfl
  | some b=>cases h
 | some a=>cases o' with
  | none=>cases h
  | some b =>
   unfold ob10 at h
   injection h with h
   injection h with _ h
   rw [Int.ofNat.inj h]
theorem at_blk10 (T:zp) (k:List UInt8):(uA U0 T).atKey (.string k) .nil=ob10 (qh T k):=by
 unfold qh
 cases h:qn T k with
 | none=>rw [Jq _ h]; rfl
 | some v=>rw [X8 _ h]; rfl
theorem ZS {v:Value} {z:DataW Unit×List MemPlace} (h:R10 v=some z):∃ o,v=.map o∧z.1=ob10 o:=by
 unfold R10 at h
 split at h
 ·
  cases h; exact ⟨_,rfl,rfl⟩
 ·
  cases h; exact ⟨_,rfl,rfl⟩
 ·
  cases h

structure zO (w:World) (B:Nat) (p:Option Nat) (T:zp):Prop where
 blk:w.heap[B]? = some (.cells #[.map p] 278 (0,0))
 nil:p=none→T=[]
 map:∀ b,p=some b→w.ownsMap Tryz.prog 9 R10 b T.length (uA U0 T)
 sets:∀ x∈T,zV w x.2.1 x.2.2
 one:∀ x∈T,∀ y∈T,x.2.1=y.2.1→x.1=y.1
 off:∀ x∈T,p≠some x.2.1
 rise:zG T

theorem zP {w:World} {b B n:Nat} {R:Value→Option (DataW Unit×List MemPlace)} {D:DataW Unit} {c:Array Value} {T:TypeId} {fr:Nat×Nat} (hm:w.ownsMap Tryz.prog 9 R b n D) (hB:w.heap[B]? = some (.cells c T fr)):b≠B:=fun e=>by
 obtain ⟨es,clock,h1,_⟩:=hm
 subst e
 rw [hB] at h1
 cases h1
section
variable {w w':World} {B:Nat} {p:Option Nat} {T:zp}
theorem zO.lt (h:zO w B p T):B<w.heap.size:=(Array.getElem?_eq_some_iff.1 h.blk).1
theorem zO.mlt (h:zO w B p T):∀ b,p=some b→b<w.heap.size:=fun b hb=>(h.map b hb).lt
theorem zO.slt (h:zO w B p T):∀ x∈T,x.2.1<w.heap.size:=fun x hx=>World.ownsMap.lt (h.sets x hx)
theorem zO.cell (h:zO w B p T):w.cell? ⟨B,0,none⟩=some (.map p):=by simp [World.cell?,h.blk]
theorem zO.frozen (h:zO w B p T):w.frozen? ⟨B,0,none⟩=false:=by simp [World.frozen?,h.blk]
theorem zO.mne (h:zO w B p T):∀ b,p=some b→b≠B:=fun b hb=>zP (h.map b hb) h.blk
theorem zO.sne (h:zO w B p T):∀ x∈T,x.2.1≠B:=fun x hx=>zP (h.sets x hx) h.blk
theorem zO.turns {S:Nat→Prop} (h:zO w B p T) (ht:zg S w w') (hB:¬ S B) (hp:∀ b,p=some b→¬ S b) (hs:∀ x∈T,¬ S x.2.1):zO w' B p T:=by
 refine ⟨(ht.block B h.lt hB).trans h.blk,h.nil,fun b hb=>?_,fun x hx=>(h.sets x hx).kept (ht.block _ (h.slt x hx) (hs x hx)),h.one,h.off,h.rise⟩
 obtain ⟨es,clock,h1,r⟩:=h.map b hb
 exact ⟨es,clock,(ht.block b (h.mlt b hb) (hp b hb)).trans h1,r⟩
theorem zO.later (h:zO w B p T) (hb:Below w.heap.size w w'):zO w' B p T:=h.turns (zg.of_below hb (fun _=>False)) (fun f=>f) (fun _ _ f=>f) (fun _ _ f=>f)

theorem look10 (h:zO w B p T) (s:ByteArray) (hs:s.size≤maxLen) :
  (Instr.lookup 276 (.map p) (.string s) true).run Tryz.prog w=.ok (.tuple #[.map (qh T s.data.toList),.bool (zz T s.data.toList)]) w:=by
 cases p with
 | none =>
  have hL:=h.nil rfl
  subst hL
  exact Maps.look_nil (P:=Tryz.prog) (w:=w) (t:=276) true xF Tryz.underlying276 (Q3 w) (Zl s hs)
 | some b =>
  obtain ⟨v,ps,hrun,hv⟩:=(h.map b rfl).look_ok xF Tryz.underlying276 (Q3 w) (show R10 (.map none)=some (.nil,[]) from rfl) (Zl s hs)
  obtain ⟨o,rfl,ho⟩:=ZS hv
  rw [hrun,Zv]
  have ho':(uA U0 T).atKey (.string s.data.toList) .nil=ob10 o:=ho
  rw [at_blk10] at ho'
  rw [X5 ho']
theorem XP (h:zO w B p T) (s:ByteArray) (hs:s.size≤maxLen) :
  (Instr.lookup 276 (.map p) (.string s) false).run Tryz.prog w=.ok (.map (qh T s.data.toList)) w:=by
 cases p with
 | none =>
  have hL:=h.nil rfl
  subst hL
  exact Maps.look_nil (P:=Tryz.prog) (w:=w) (t:=276) false xF Tryz.underlying276 (Q3 w) (Zl s hs)
 | some b =>
  obtain ⟨v,ps,hrun,hv⟩:=(h.map b rfl).lookup xF Tryz.underlying276 (Q3 w) (show R10 (.map none)=some (.nil,[]) from rfl) (Zl s hs)
  obtain ⟨o,rfl,ho⟩:=ZS hv
  rw [hrun]
  have ho':(uA U0 T).atKey (.string s.data.toList) .nil=ob10 o:=ho
  rw [at_blk10] at ho'
  rw [X5 ho']
theorem len10 (h:zO w B p T) (ty:TypeId):(Builtin.len_ #[276] ty #[.map p]).run Tryz.prog w=.ok (.int .i64 T.length) w:=by
 cases p with
 | none =>
  have hL:=h.nil rfl
  subst hL
  exact Maps.len_nil Tryz.underlying276 ty
 | some b =>
  have:=(h.map b rfl).len (t:=276) Tryz.underlying276 ty
  rwa [vy] at this
theorem nilmap10 (w:World) (p:Option Nat):(binOp .eql 276 (.map p) (.map none)).run Tryz.prog w=.ok (.bool p.isNone) w :=
 run_eql_map_nil_sl w 276 _ _ p Tryz.underlying276
end

theorem vD (T:zp) (k:List UInt8):zz (z8 T) k=zz T k:=map_hasV (fun v:Nat×zK=>v.2) T k
theorem xM (T:zp):zc (z8 T)=zc T:=uu (fun v:Nat×zK=>v.2) T
theorem uZ (T:zp):(z8 T).length=T.length:=List.length_map _
theorem Xz (T:zp) (k:List UInt8) (v:Nat×zK):z8 (yR T k v)=yR (z8 T) k v.2:=map_putV (fun v:Nat×zK=>v.2) T k v
theorem plain10_del (T:zp) (k:List UInt8):z8 (xK T k)=xK (z8 T) k:=map_delV (fun v:Nat×zK=>v.2) T k
theorem plain10_upd (f:zK→zK) (T:zp) (k:List UInt8):z8 (Yp (fun v=>(v.1,f v.2)) T k)=Yp f (z8 T) k:=by
 unfold z8 Yp
 rw [List.map_map,List.map_map]
 refine List.map_congr_left fun x _=>?_
 show (let y:=if x.1=k then (x.1,(x.2.1,f x.2.2)) else x; (y.1,y.2.2))=if x.1=k then (x.1,f x.2.2) else (x.1,x.2.2)
 by_cases e:x.1=k
 ·
  rw [if_pos e,if_pos e]
 ·
  rw [if_neg e,if_neg e]
theorem fF {T:zp} (hr:zG T) {x:List UInt8×(Nat×zK)} (hx:x∈T):VS (z8 T) x.1=x.2.2:=by
 have h1:zG (z8 T):=xq hr (xM T)
 have h2:(x.1,x.2.2)∈z8 T:=List.mem_map.2 ⟨x,hx,rfl⟩
 exact qv h1 h2
theorem vL {T:zp} (hr:zG T) {x:List UInt8×(Nat×zK)} (hx:x∈T):qh T x.1=some x.2.1:=by
 unfold qh
 rw [(yl hr).2 (show (x.1,x.2)∈T from hx)]; rfl
theorem UW {T:zp} {k:List UInt8} (h:zz T k=false):qh T k=none:=by
 unfold qh
 rw [qO.2 h]; rfl
theorem fY {V:Type} {f:V→V} {L:yT V} {k:List UInt8} {p:List UInt8×V} (h:p∈Yp f L k):∃ q∈L,p=(q.1,if q.1=k then f q.2 else q.2):=by
 obtain ⟨q,hq,rfl⟩:=List.mem_map.1 h
 refine ⟨q,hq,?_⟩
 by_cases e:q.1=k
 ·
  rw [if_pos e,if_pos e]
 ·
  rw [if_neg e,if_neg e]
theorem zO.turned {w w':World} {B:Nat} {p:Option Nat} {T:zp} (h:zO w B p T) {x:List UInt8×(Nat×zK)} (hx:x∈T) (f:zK→zK) (hs:zV w' x.2.1 (f x.2.2)) (ht:zg (fun i=>i=x.2.1) w w'):zO w' B p (Yp (fun v=>(v.1,f v.2)) T x.1):=by
 have hbb:∀ q∈T,(if q.1=x.1 then (q.2.1,f q.2.2) else q.2).1=q.2.1:=fun q _=>by split <;> rfl
 refine ⟨(ht.block B h.lt (fun e=>h.sne x hx e.symm)).trans h.blk,fun e=>?_,fun b hb=>?_,fun y hy=>?_,fun y hy z hz e=>?_,fun y hy=>?_,Xt h.rise _ _⟩
 ·
  rw [h.nil e] at hx; cases hx
 ·
  have e1:uA U0 (Yp (fun v=>(v.1,f v.2)) T x.1)=uA U0 T:=datV_upd (e:=U0) (f:=fun v=>(v.1,f v.2)) (fun _=>rfl) T x.1
  rw [e1,show (Yp (fun v:Nat×zK=>(v.1,f v.2)) T x.1).length=T.length from List.length_map _]
  obtain ⟨es,clock,h1,r⟩:=h.map b hb
  exact ⟨es,clock,(ht.block b (h.mlt b hb) (fun e=>h.off x hx (by rw [hb,e]))).trans h1,r⟩
 ·
  obtain ⟨q,hq,rfl⟩:=fY hy
  by_cases e:q.1=x.1
  ·
   have:=Xu h.rise hq hx e
   subst this
   simp only [if_true]
   exact hs
  ·
   simp only [e,if_false]
   exact (h.sets q hq).kept (ht.block _ (h.slt q hq) (fun e'=>e (h.one q hq x hx e')))
 ·
  obtain ⟨q,hq,rfl⟩:=fY hy
  obtain ⟨r,hr,rfl⟩:=fY hz
  simp only [hbb q hq,hbb r hr] at e
  exact h.one q hq r hr e
 ·
  obtain ⟨q,hq,rfl⟩:=fY hy
  simp only [hbb q hq]
  exact h.off q hq

def Turn10 (B:Nat) (p:Option Nat) (T:zp) (w w':World):Prop:=zg (fun i=>i=B∨p=some i∨∃ x∈T,x.2.1=i) w w'
def zR (w:World) (B:Nat) (p:Option Nat) (T:zp) (S':zo) (w':World):Prop :=
 ∃ p' T',zO w' B p' T'∧z8 T'=S'∧(∀ b,p'=some b→p=some b∨w.heap.size≤b)∧(∀ x∈T',(∃ y∈T,y.2.1=x.2.1)∨w.heap.size≤x.2.1)∧Turn10 B p T w w'
theorem zR.still {w w':World} {B:Nat} {p:Option Nat} {T:zp} (h:zO w B p T) (hb:Below w.heap.size w w'):zR w B p T (z8 T) w' :=
 ⟨p,T,h.later hb,rfl,fun _ e=>.inl e,fun x hx=>.inl ⟨x,hx,rfl⟩,zg.of_below hb _⟩
theorem zR.ahead {w w1 w':World} {B:Nat} {p:Option Nat} {T:zp} {S':zo} (hb:Below w.heap.size w w1) (h:zR w1 B p T S' w'):zR w B p T S' w':=by
 obtain ⟨p',T',hd,hS,hp,hx,ht⟩:=h
 exact ⟨p',T',hd,hS,fun b e=>(hp b e).imp id (fun h=>Nat.le_trans hb.size h),fun x hh=>(hx x hh).imp id (fun h=>Nat.le_trans hb.size h),(zg.of_below hb _).next ht (fun i _ h=>h)⟩
theorem zR.behind {w w1 w':World} {B:Nat} {p:Option Nat} {T:zp} {S':zo} (h:zR w B p T S' w1) (hb:Below w1.heap.size w1 w'):zR w B p T S' w':=by
 obtain ⟨p',T',hd,hS,hp,hx,ht⟩:=h
 exact ⟨p',T',hd.later hb,hS,hp,hx,zg.next ht (zg.of_below hb (fun _=>False)) (fun _ _ f=>f.elim)⟩

set_option maxRecDepth 100000 in
theorem Vl (s:ByteArray) (w:World) (hs:s.size≤9223372036854775807) :
  Calls Tryz.prog 223 #[.string s] w (yL (!zh s.data.toList) w):=by
 have HN:=za (zW s w hs)
 cases hb:zh s.data.toList with
 | false =>
  rw [hb] at HN
  have HN2:Hid (Calls Tryz.prog 159 #[.string s] w (yG 10 w)):=HN.out
  clear HN hb
  go_enter Tryz.func223,Tryz.ntmps223
  go_wp2_with fail
  with_reducible refine HN2.out.mono ?_
  rintro e w1 ⟨rfl,hb⟩
  have HB:=za hb
  clear hb HN2
  go_wp2
  go_ret
  exact ⟨rfl,HB.out⟩
 | true =>
  rw [hb] at HN
  have HN2:Hid (Calls Tryz.prog 159 #[.string s] w (yG 0 w)):=HN.out
  clear HN hb
  go_enter Tryz.func223,Tryz.ntmps223
  go_wp2_with fail
  with_reducible refine HN2.out.mono ?_
  rintro e w1 ⟨rfl,hb⟩
  have HB:=za hb
  clear hb HN2
  go_wp2
  go_ret
  exact ⟨rfl,HB.out⟩

set_option maxRecDepth 100000 in
theorem Fy (fv:Value) (w:World):Calls Tryz.prog 238 #[.slice none 0 0,fv] w fun e w'=>e=.returned (.int .i64 (-1))∧w'=w:=by
 go_enter Tryz.func238,Tryz.ntmps238
 go_wp2
 refine wp_loop_rounds 1 ?_
 rw [rounds_succ]
 go_wp2
 go_ret
 exact ⟨rfl,rfl⟩
set_option maxRecDepth 100000 in
theorem index10_one (g:Nat) (B:Nat) (s:ByteArray) (b:Bool) (w:World) (eg:∀ args w,(callFunc g args).run Tryz.prog w=.ok (.enter g args) w) (hc:w.cell? ⟨B,0,none⟩=some (.string s)) (hp:Calls Tryz.prog g #[.string s] w (yL b w)) :
  Calls Tryz.prog 238 #[.slice (some ⟨B,0,none⟩) 1 1,.func (.func g) #[] #[]] w fun e w'=>e=.returned (.int .i64 (if b then 0 else -1))∧Below w.heap.size w w':=by
 have HP:=za hp
 clear hp
 cases b with
 | true =>
  go_enter Tryz.func238,Tryz.ntmps238
  go_wp2
  refine wp_loop_rounds 1 ?_
  rw [rounds_succ]
  go_wp2_with (go_at_fn g; (with_reducible refine HP.out.mono ?_); rintro e w1 ⟨rfl,hb⟩; have HB:=za hb; clear hb)
  go_ret
  exact ⟨rfl,HB.out⟩
 | false =>
  go_enter Tryz.func238,Tryz.ntmps238
  go_wp2
  refine wp_loop_rounds 2 ?_
  rw [rounds_succ]
  go_wp2_with (go_at_fn g; (with_reducible refine HP.out.mono ?_); rintro e w1 ⟨rfl,hb⟩; have HB:=za hb; clear hb)
  rw [rounds_succ]
  go_wp2
  go_ret
  exact ⟨rfl,HB.out⟩
set_option maxRecDepth 100000 in
theorem Ve (fv:Value) (w:World):Calls Tryz.prog 222 #[.slice none 0 0,fv] w fun e w'=>e=.returned (.bool false)∧w'=w:=by
 have HP:=za (Fy fv w)
 go_enter Tryz.func222,Tryz.ntmps222
 go_wp2_with fail
 with_reducible refine HP.out.mono ?_
 rintro e w1 ⟨rfl,rfl⟩
 go_wp2
 go_ret
 exact ⟨rfl,rfl⟩
set_option maxRecDepth 100000 in
theorem U7 (g:Nat) (B:Nat) (s:ByteArray) (b:Bool) (w:World) (eg:∀ args w,(callFunc g args).run Tryz.prog w=.ok (.enter g args) w) (hc:w.cell? ⟨B,0,none⟩=some (.string s)) (hp:Calls Tryz.prog g #[.string s] w (yL b w)) :
  Calls Tryz.prog 222 #[.slice (some ⟨B,0,none⟩) 1 1,.func (.func g) #[] #[]] w (yL b w):=by
 have HP:=za (index10_one g B s b w eg hc hp)
 clear hp hc
 cases b with
 | true =>
  go_enter Tryz.func222,Tryz.ntmps222
  go_wp2_with fail
  with_reducible refine HP.out.mono ?_
  rintro e w1 ⟨rfl,hb⟩
  have HB:=za hb
  clear hb HP
  go_wp2
  go_ret
  exact ⟨rfl,HB.out⟩
 | false =>
  go_enter Tryz.func222,Tryz.ntmps222
  go_wp2_with fail
  with_reducible refine HP.out.mono ?_
  rintro e w1 ⟨rfl,hb⟩
  have HB:=za hb
  clear hb HP
  go_wp2
  go_ret
  exact ⟨rfl,HB.out⟩
set_option maxRecDepth 100000 in
theorem ZA (w:World):Calls Tryz.prog 197 #[.slice none 0 0] w fun e w'=>e=.returned (.bool true)∧w'=w:=by
 have HP:=za (Ve (.func (.func 223) #[] #[]) w)
 go_enter Tryz.func197,Tryz.ntmps197
 go_wp2_with fail
 with_reducible refine HP.out.mono ?_
 rintro e w1 ⟨rfl,rfl⟩
 go_wp2
 go_ret
 exact ⟨rfl,rfl⟩
set_option maxRecDepth 100000 in
theorem uw (B:Nat) (s:ByteArray) (w:World) (hs:s.size≤9223372036854775807) (hc:w.cell? ⟨B,0,none⟩=some (.string s)):Calls Tryz.prog 197 #[.slice (some ⟨B,0,none⟩) 1 1] w (yL (zh s.data.toList) w):=by
 have HP:=za (U7 _ B s _ w (enters_of Tryz.func223 (by kernel_rfl) rfl) hc (Vl s w hs))
 clear hc
 generalize zh s.data.toList=b at *
 cases b with
 | true =>
  go_enter Tryz.func197,Tryz.ntmps197
  go_wp2_with fail
  with_reducible refine HP.out.mono ?_
  rintro e w1 ⟨rfl,hb⟩
  have HB:=za hb
  clear hb HP
  go_wp2
  go_ret
  exact ⟨rfl,HB.out⟩
 | false =>
  go_enter Tryz.func197,Tryz.ntmps197
  go_wp2_with fail
  with_reducible refine HP.out.mono ?_
  rintro e w1 ⟨rfl,hb⟩
  have HB:=za hb
  clear hb HP
  go_wp2
  go_ret
  exact ⟨rfl,HB.out⟩

/-! ### has -/
set_option maxRecDepth 100000 in
theorem hasfn_calls (s:ByteArray) (w:World):Calls Tryz.prog 332 #[.string s] w fun e w'=>e=.returned (.func (.func 335) #[] #[.pointer (some ⟨w.heap.size,0,none⟩)])∧w'=w.alloc (.cells #[.string s] 9):=by
 have hmf:=mkf
 go_enter Tryz.func332,Tryz.ntmps332
 go_wp2
 go_ret
 exact ⟨rfl,rfl⟩
set_option maxRecDepth 100000 in
theorem has1_calls (C b:Nat) (L:zK) (s:ByteArray) (w:World) (hs:s.size≤maxLen) (hc:w.cell? ⟨C,0,none⟩=some (.string s)) (h:zV w b L):Calls Tryz.prog 335 #[.map (some b),.pointer (some ⟨C,0,none⟩)] w fun e w'=>e=.returned (.bool (zz L s.data.toList))∧w'=w:=by
 have hl:=has10 h s hs
 generalize zz L s.data.toList=r at *
 clear h
 go_enter Tryz.func335,Tryz.ntmps335
 go_wp2
 go_ret
 exact ⟨rfl,rfl⟩

/-! ### every -/
set_option maxRecDepth 100000 in
theorem QX (fv:Value) (w:World):Calls Tryz.prog 379 #[.slice none 0 0,fv] w fun e w'=>e=.returned (.int .i64 (-1))∧w'=w:=by
 go_enter Tryz.func379,Tryz.ntmps379
 go_wp2
 refine wp_loop_rounds 1 ?_
 rw [rounds_succ]
 go_wp2
 go_ret
 exact ⟨rfl,rfl⟩
set_option maxRecDepth 100000 in
theorem YT (fv:Value) (w:World):Calls Tryz.prog 377 #[.slice none 0 0,fv] w fun e w'=>e=.returned (.bool false)∧w'=w:=by
 have HP:=za (QX fv w)
 go_enter Tryz.func377,Tryz.ntmps377
 go_wp2_with fail
 with_reducible refine HP.out.mono ?_
 rintro e w1 ⟨rfl,rfl⟩
 go_wp2
 go_ret
 exact ⟨rfl,rfl⟩
set_option maxRecDepth 100000 in
theorem everyb_none (c:Bool) (w:World):Calls Tryz.prog 376 #[.bool c,.slice none 0 0] w (yL true w):=by
 have hmf:=mkf
 have HP:Hid (∀ fv W,Calls Tryz.prog 377 #[.slice none 0 0,fv] W fun e w'=>e=.returned (.bool false)∧w'=W):=YT
 have HB:=za (zb (Below.refl w.heap.size w) (.cells #[.bool c] 4))
 go_enter Tryz.func376,Tryz.ntmps376
 go_wp2_with fail
 with_reducible refine (HP.out _ _).mono ?_
 rintro e w1 ⟨rfl,rfl⟩
 go_wp2
 go_ret
 exact ⟨rfl,HB.out⟩
set_option maxRecDepth 100000 in
theorem QW (fv:Value) (w:World):Calls Tryz.prog 338 #[.slice none 0 0,fv] w fun e w'=>e=.returned (.int .i64 (-1))∧w'=w:=by
 go_enter Tryz.func338,Tryz.ntmps338
 go_wp2
 refine wp_loop_rounds 1 ?_
 rw [rounds_succ]
 go_wp2
 go_ret
 exact ⟨rfl,rfl⟩
set_option maxRecDepth 100000 in
theorem Fx (g:Nat) (B C:Nat) (f:Value) (b:Bool) (w:World) (eg:∀ args w,(callFunc g args).run Tryz.prog w=.ok (.enter g args) w) (hc:w.cell? ⟨B,0,none⟩=some f) (hp:Calls Tryz.prog g #[f,.pointer (some ⟨C,0,none⟩)] w (yL b w)) :
  Calls Tryz.prog 338 #[.slice (some ⟨B,0,none⟩) 1 1,.func (.func g) #[] #[.pointer (some ⟨C,0,none⟩)]] w fun e w'=>e=.returned (.int .i64 (if b then 0 else -1))∧Below w.heap.size w w':=by
 have HP:=za hp
 clear hp
 cases b with
 | true =>
  go_enter Tryz.func338,Tryz.ntmps338
  go_wp2
  refine wp_loop_rounds 1 ?_
  rw [rounds_succ]
  go_wp2_with (go_at_fn g; (with_reducible refine HP.out.mono ?_); rintro e w1 ⟨rfl,hb⟩; have HB:=za hb; clear hb)
  go_ret
  exact ⟨rfl,HB.out⟩
 | false =>
  go_enter Tryz.func338,Tryz.ntmps338
  go_wp2
  refine wp_loop_rounds 2 ?_
  rw [rounds_succ]
  go_wp2_with (go_at_fn g; (with_reducible refine HP.out.mono ?_); rintro e w1 ⟨rfl,hb⟩; have HB:=za hb; clear hb)
  rw [rounds_succ]
  go_wp2
  go_ret
  exact ⟨rfl,HB.out⟩
set_option maxRecDepth 100000 in
theorem YS (fv:Value) (w:World):Calls Tryz.prog 336 #[.slice none 0 0,fv] w fun e w'=>e=.returned (.bool false)∧w'=w:=by
 have HP:=za (QW fv w)
 go_enter Tryz.func336,Tryz.ntmps336
 go_wp2_with fail
 with_reducible refine HP.out.mono ?_
 rintro e w1 ⟨rfl,rfl⟩
 go_wp2
 go_ret
 exact ⟨rfl,rfl⟩
set_option maxRecDepth 100000 in
theorem Vd (g:Nat) (B C:Nat) (f:Value) (b:Bool) (w:World) (eg:∀ args w,(callFunc g args).run Tryz.prog w=.ok (.enter g args) w) (hc:w.cell? ⟨B,0,none⟩=some f) (hp:Calls Tryz.prog g #[f,.pointer (some ⟨C,0,none⟩)] w (yL b w)) :
  Calls Tryz.prog 336 #[.slice (some ⟨B,0,none⟩) 1 1,.func (.func g) #[] #[.pointer (some ⟨C,0,none⟩)]] w (yL b w):=by
 have HP:=za (Fx g B C f b w eg hc hp)
 clear hp hc
 cases b with
 | true =>
  go_enter Tryz.func336,Tryz.ntmps336
  go_wp2_with fail
  with_reducible refine HP.out.mono ?_
  rintro e w1 ⟨rfl,hb⟩
  have HB:=za hb
  clear hb HP
  go_wp2
  go_ret
  exact ⟨rfl,HB.out⟩
 | false =>
  go_enter Tryz.func336,Tryz.ntmps336
  go_wp2_with fail
  with_reducible refine HP.out.mono ?_
  rintro e w1 ⟨rfl,hb⟩
  have HB:=za hb
  clear hb HP
  go_wp2
  go_ret
  exact ⟨rfl,HB.out⟩
set_option maxRecDepth 100000 in
theorem everys_none (p:Option Nat) (w:World):Calls Tryz.prog 334 #[.map p,.slice none 0 0] w (yL true w):=by
 have hmf:=mkf
 have HP:Hid (∀ fv W,Calls Tryz.prog 336 #[.slice none 0 0,fv] W fun e w'=>e=.returned (.bool false)∧w'=W):=YS
 have HB:=za (zb (Below.refl w.heap.size w) (.cells #[.map p] 274))
 go_enter Tryz.func334,Tryz.ntmps334
 go_wp2_with fail
 with_reducible refine (HP.out _ _).mono ?_
 rintro e w1 ⟨rfl,rfl⟩
 go_wp2
 go_ret
 exact ⟨rfl,HB.out⟩
set_option maxRecDepth 100000 in
theorem J5 (C D b:Nat) (L:zK) (s:ByteArray) (w:World) (hs:s.size≤maxLen) (hC:w.cell? ⟨C,0,none⟩=some (.string s)) (hD:w.cell? ⟨D,0,none⟩=some (.map (some b))) (h:zV w b L) :
  Calls Tryz.prog 337 #[.func (.func 335) #[] #[.pointer (some ⟨C,0,none⟩)],.pointer (some ⟨D,0,none⟩)] w (yL (!zz L s.data.toList) w):=by
 have eg:∀ args w,(callFunc 335 args).run Tryz.prog w=.ok (.enter 335 args) w:=enters_of Tryz.func335 (by kernel_rfl) rfl
 have HP:Hid (Calls Tryz.prog 335 #[.map (some b),.pointer (some ⟨C,0,none⟩)] w (yL (zz L s.data.toList) w)):=(has1_calls C b L s w hs hC h).mono fun e w' ⟨he,hw⟩=>⟨he,by rw [hw]; exact Below.refl _ _⟩
 clear hC h
 generalize zz L s.data.toList=r at *
 cases r with
 | true =>
  show Calls _ _ _ _ (yL false w)
  go_enter Tryz.func337,Tryz.ntmps337
  go_wp2_with (go_at_fn 335; (with_reducible refine HP.out.mono ?_); rintro e w1 ⟨rfl,hb⟩; have HB:=za hb; clear hb)
  go_ret
  exact ⟨rfl,HB.out⟩
 | false =>
  show Calls _ _ _ _ (yL true w)
  go_enter Tryz.func337,Tryz.ntmps337
  go_wp2_with (go_at_fn 335; (with_reducible refine HP.out.mono ?_); rintro e w1 ⟨rfl,hb⟩; have HB:=za hb; clear hb)
  go_ret
  exact ⟨rfl,HB.out⟩
set_option maxRecDepth 100000 in
theorem everys_one (A C b:Nat) (L:zK) (s:ByteArray) (w:World) (hs:s.size≤maxLen) (hA:w.cell? ⟨A,0,none⟩=some (.func (.func 335) #[] #[.pointer (some ⟨C,0,none⟩)])) (hC:w.cell? ⟨C,0,none⟩=some (.string s)) (h:zV w b L) :
  Calls Tryz.prog 334 #[.map (some b),.slice (some ⟨A,0,none⟩) 1 1] w (yL (zz L s.data.toList) w):=by
 have hmf:=mkf
 have hb:=zb (Below.refl w.heap.size w) (.cells #[.map (some b)] 274)
 have lA:A<w.heap.size:=World.block_lt_of_cell? w _ hA
 have lC:C<w.heap.size:=World.block_lt_of_cell? w _ hC
 have cA:=(hb.cell (p:=⟨A,0,none⟩) lA).trans hA
 have cC:=(hb.cell (p:=⟨C,0,none⟩) lC).trans hC
 have cD:(w.alloc (.cells #[.map (some b)] 274)).cell? ⟨w.heap.size,0,none⟩=some (.map (some b)):=by rw [World.cell?_alloc_at _ _ _ _ rfl]; rfl
 have HP:=za (Vd _ A w.heap.size _ _ _ (enters_of Tryz.func337 (by kernel_rfl) rfl) cA (J5 C w.heap.size b L s _ hs cC cD (h.kept (hb.block b (World.ownsMap.lt h)))))
 have HB:=za hb
 clear hb cA cC cD h hA hC lA lC
 generalize zz L s.data.toList=r at *
 cases r with
 | true =>
  go_enter Tryz.func334,Tryz.ntmps334
  go_wp2_with fail
  with_reducible refine HP.out.mono ?_
  rintro e w1 ⟨rfl,hb1⟩
  have HB1:=za (z7 HB.out hb1)
  clear hb1 HP
  go_wp2
  go_ret
  exact ⟨rfl,HB1.out⟩
 | false =>
  go_enter Tryz.func334,Tryz.ntmps334
  go_wp2_with fail
  with_reducible refine HP.out.mono ?_
  rintro e w1 ⟨rfl,hb1⟩
  have HB1:=za (z7 HB.out hb1)
  clear hb1 HP
  go_wp2
  go_ret
  exact ⟨rfl,HB1.out⟩

set_option maxRecDepth 100000 in
theorem qC (b:Nat) (L:zK) (s:ByteArray) (w:World) (h:zV w b L) (hf:L.length≤1000) (hs:s.size≤1000) :
  Calls Tryz.prog 225 #[.map (some b),.string s] w fun e w'=>e=.returned (.tuple #[])∧zV w' b (yR L s.data.toList ())∧zg (fun i=>i=b) w w':=by
 have HC:=za (yy s w hs)
 have HA:Hid (∀ W,Below w.heap.size w W→∃ w',(Instr.mapUpdate 274 (.map (some b)) (.string s) (.bool true)).run Tryz.prog W=.ok () w'∧zV w' b (yR L s.data.toList ())∧zg (fun i=>i=b) w w'):=fun W hb=>by
  obtain ⟨w',h1,h2,h3⟩:=add10 (h.kept (hb.block b (World.ownsMap.lt h))) hf s (Nat.le_trans hs (by decide))
  exact ⟨w',h1,h2,(zg.of_below hb _).grown h3.grown (fun k hk _=>by cases hk; rfl)⟩
 clear h
 go_enter Tryz.func225,Tryz.ntmps225
 go_wp2_with fail
 with_reducible refine HC.out.mono ?_
 rintro e w1 ⟨rfl,hb⟩
 obtain ⟨w2,hrun,h2,h3⟩:=HA.out w1 hb
 have H2:=za h2
 have H3:=za h3
 clear hb h2 h3 HA HC
 go_wp2
 go_end0
 exact ⟨rfl,H2.out,H3.out⟩

set_option maxRecDepth 100000 in
theorem fH (w:World):Calls Tryz.prog 194 #[] w fun e w'=>e=.returned (.pointer (some ⟨w.heap.size,0,none⟩))∧w'=w.alloc (.cells #[.map none] 278):=by
 go_enter Tryz.func194,Tryz.ntmps194
 go_wp2
 go_ret
 exact ⟨rfl,rfl⟩
theorem V2 (w:World):zO (w.alloc (.cells #[.map none] 278)) w.heap.size none [] :=
 ⟨(MapKept.heap_alloc w _).1,(fun _=>rfl),(fun _ h=>nomatch h),(fun _ h=>nomatch h),(fun _ h=>nomatch h),(fun _ h=>nomatch h),List.Pairwise.nil⟩

def ql (w:World) (B:Nat) (p:Option Nat) (T':zp) (w':World):Prop :=
 ∃ p',zO w' B p' T'∧(∀ c,p'=some c→p=some c∨w.heap.size≤c)∧zg (fun i=>i=B∨p=some i) w w'
theorem FF {w w':World} {B m b:Nat} {T:zp} {l:zK} {k:List UInt8} {n:Nat} (h:zO w B (some m) T) (hs:zV w b l) (hn:∀ x∈T,x.2.1≠b) (hm:m≠b) (ht:w.mapTurned w' m)
  (hown:w'.ownsMap Tryz.prog 9 R10 m n (uA U0 (yR T k (b,l)))):zO w' B (some m) (yR T k (b,l)):=by
 have htn:zg (fun i=>i=m) w w':=(zg.refl _ w).grown ht.grown (fun k hk _=>by cases hk; rfl)
 refine ⟨(htn.block B h.lt (fun e=>h.mne m rfl e.symm)).trans h.blk,(fun e=>nomatch e),fun c hc=>?_,fun x hx=>?_,fun x hx y hy e=>?_,fun x hx=>?_,xd h.rise _ _⟩
 ·
  cases hc
  have:=vT hown
  rwa [vy] at this
 ·
  rcases yJ.1 hx with rfl | ⟨hx,_⟩
  ·
   exact hs.kept (htn.block b (World.ownsMap.lt hs) (fun e=>hm e.symm))
  ·
   exact (h.sets x hx).kept (htn.block _ (h.slt x hx) (fun e=>h.off x hx (by rw [e])))
 ·
  rcases yJ.1 hx with rfl | ⟨hx,_⟩ <;> rcases yJ.1 hy with rfl | ⟨hy,_⟩
  ·
   rfl
  ·
   exact absurd e.symm (hn y hy)
  ·
   exact absurd e (hn x hx)
  ·
   exact h.one x hx y hy e
 ·
  rcases yJ.1 hx with rfl | ⟨hx,_⟩
  ·
   intro e; injection e with e; exact hm e
  ·
   exact h.off x hx
theorem V1 {w:World} {B m b:Nat} {T:zp} {l:zK} (h:zO w B (some m) T) (hs:zV w b l) (hn:∀ x∈T,x.2.1≠b) (hm:m≠b) (hf:T.length≤1000) (g:ByteArray) (hg:g.size≤maxLen) :
  ∃ w',(Instr.mapUpdate 276 (.map (some m)) (.string g) (.map (some b))).run Tryz.prog w=.ok () w'∧zO w' B (some m) (yR T g.data.toList (b,l))∧zg (fun i=>i=m) w w':=by
 obtain ⟨w',hrun,hown,ht⟩:=(h.map m rfl).store xF Tryz.underlying276 (Nat.lt_of_le_of_lt hf (by decide)) (Zl g hg) (show R10 (.map (some b))=some (.lit (.int .i64 b),[]) from rfl)
 have e:uA U0 (yR T g.data.toList (b,l))=(uA U0 T).put (.string g.data.toList) (.lit (.int .i64 b)):=(Jc U0 T _ (b,l)).symm
 exact ⟨w',hrun,FF h hs hn hm ht (by rw [e]; exact hown),(zg.refl _ w).grown ht.grown (fun k hk _=>by cases hk; rfl)⟩

def YP10 (B m b:Nat) (g:ByteArray):Nat→Value→Prop
 | 3,v=>v=.map (some m)
 | 4,v=>v=.string g
 | 5,v=>v=.string g
 | 6,v=>v=.map (some b)
 | _,v=>v=.pointer (some ⟨B,0,none⟩)
def YPut10 (B m b:Nat) (g:ByteArray) (j:Nat) (v:Value) (_:World):Prop:=YP10 B m b g j v

set_option maxRecDepth 100000 in
theorem put10_some (B m b:Nat) (T:zp) (l:zK) (g:ByteArray) (w:World) (h:zO w B (some m) T) (hs:zV w b l) (hn:∀ x∈T,x.2.1≠b) (hm:m≠b) (hf:T.length≤1000) (hg:g.size≤1000) :
  Calls Tryz.prog 198 #[.pointer (some ⟨B,0,none⟩),.string g,.map (some b)] w fun e w'=>e=.returned (.tuple #[])∧ql w B (some m) (yR T g.data.toList (b,l)) w':=by
 have HC:Hid (∀ W,Calls Tryz.prog 191 #[.string g] W fun e w'=>e=.returned (.string g)∧Below W.heap.size W w'):=fun W=>yy g W hg
 have hq:=nilmap10 w (some m)
 have hc:=h.cell
 have HG1:=za h
 have HST:Hid (∀ W,Below w.heap.size w W→∃ w',(Instr.mapUpdate 276 (.map (some m)) (.string g) (.map (some b))).run Tryz.prog W=.ok () w'∧ql w B (some m) (yR T g.data.toList (b,l)) w'):=fun W hb=>by
  obtain ⟨w',h1,h2,h3⟩:=V1 (h.later hb) (hs.kept (hb.block b (World.ownsMap.lt hs))) hn hm hf g (Nat.le_trans hg (by decide))
  exact ⟨w',h1,some m,h2,(fun _ e=>.inl e),(zg.of_below hb _).next h3 (fun i _ e=>.inr (by rw [e]))⟩
 clear h hs hn hm hf
 go_enter Tryz.func198,Tryz.ntmps198
 go_wp2_with fail

 refine zB (by kernel_rfl) 7 (fun W=>Below w.heap.size w W) (fun W=>ql w B (some m) (yR T g.data.toList (b,l)) W) (YPut10 B m b g) (fun _=>True) ?F ?hF (by kernel_rfl) (by kernel_rfl) (by kernel_rfl) (by kernel_rfl) (by decide) (zQ (Below.refl _ _)) ?step ?fin
 case hF =>
  intro x
  simp only [List.map_cons,List.map_nil,xU,Act.put,List.setIfInBounds_toArray,List.set_cons_zero,List.set_cons_succ,Nat.zero_add,Nat.reduceAdd]
  exact rfl
 case step =>
  refine ⟨?_,?_,?_,?_,?_,?_,?_,?_,trivial⟩
  ·
   intro x W
   refine ⟨fun _ hW hdep K hK=>?_,(fun h=>absurd h (by decide)),(fun h=>absurd h (by decide))⟩
   clear hdep
   go_simp
   exact hK _ _ rfl hW (fun _ _ h=>h)
  ·
   intro x W
   refine ⟨fun _ hW hdep K hK=>?_,(fun h=>absurd h (by decide)),(fun h=>absurd h (by decide))⟩
   have h0:x 0=_:=hdep 0 rfl
   clear hdep
   simp only [h0] at hK
   go_simp
   exact hK _ _ rfl hW (fun _ _ h=>h)
  ·
   intro x W
   refine ⟨fun _ hW hdep K hK=>?_,(fun h=>absurd h (by decide)),(fun h=>absurd h (by decide))⟩
   have h1:x 1=_:=hdep 1 rfl
   clear hdep
   simp only [h1] at hK
   go_simp
   exact hK _ _ rfl hW (fun _ _ h=>h)
  ·
   intro x W
   refine ⟨fun _ hW hdep K hK=>?_,(fun h=>absurd h (by decide)),(fun h=>absurd h (by decide))⟩
   have h2:x 2=_:=hdep 2 rfl
   have c:=(HG1.out.later hW).cell
   clear hdep
   simp only [h2] at hK
   go_simp
   exact hK _ _ rfl hW (fun _ _ h=>h)
  ·
   intro x W
   refine ⟨fun _ hW hdep K hK=>?_,(fun h=>absurd h (by decide)),(fun h=>absurd h (by decide))⟩
   clear hdep
   go_simp
   exact hK _ _ rfl hW (fun _ _ h=>h)
  ·
   intro x W
   refine ⟨fun _ hW hdep K hK=>?_,(fun h=>absurd h (by decide)),(fun h=>absurd h (by decide))⟩
   have h4:x 4=_:=hdep 4 rfl
   have hc:=HC.out W
   clear hdep
   simp only [h4] at hK
   go_simp
   refine hc.mono ?_
   rintro e W' ⟨rfl,hb⟩
   exact hK _ _ rfl (z7 hW hb) (fun _ _ h=>h)
  ·
   intro x W
   refine ⟨fun _ hW hdep K hK=>?_,(fun h=>absurd h (by decide)),(fun h=>absurd h (by decide))⟩
   clear hdep
   go_simp
   exact hK _ _ rfl hW (fun _ _ h=>h)
  ·
   intro x W
   refine ⟨(fun h=>absurd h (by decide)),fun _ hW hdep K hK=>?_,(fun h=>absurd h (by decide))⟩
   have h3:x 3=_:=hdep 3 rfl
   have h5:x 5=_:=hdep 5 rfl
   have h6:x 6=_:=hdep 6 rfl
   obtain ⟨w',hrun,hg⟩:=HST.out W hW
   clear hdep
   simp only [h3,h5,h6] at hK
   go_simp
   exact hK undef _ trivial hg
 case fin =>
  intro x W hW _
  have HF:=za hW
  clear hW HG1 HST HC
  go_end0
  exact ⟨rfl,HF.out⟩

set_option maxRecDepth 100000 in
theorem put10_none (B b:Nat) (l:zK) (g:ByteArray) (w:World) (h:zO w B none []) (hs:zV w b l) (hg:g.size≤1000) :
  Calls Tryz.prog 198 #[.pointer (some ⟨B,0,none⟩),.string g,.map (some b)] w fun e w'=>e=.returned (.tuple #[])∧ql w B none (yR [] g.data.toList (b,l)) w':=by
 have HC:Hid (∀ W,Calls Tryz.prog 191 #[.string g] W fun e w'=>e=.returned (.string g)∧Below W.heap.size W w'):=fun W=>yy g W hg
 have hq:=nilmap10 w none
 have hc:=h.cell
 have hf0:=h.frozen
 have hBl:=h.lt
 have hmm:=@run_makeMap Tryz.prog
 have hbl:b<w.heap.size:=World.ownsMap.lt hs
 have hbB:b≠B:=zP hs h.blk
 have hsz:(w.setCell ⟨B,0,none⟩ (.map (some w.heap.size))).heap.size=w.heap.size:=by simp [World.setCell]
 have hblk1:=heap_setCell_box_a (.map (some w.heap.size)) h.blk
 have hblk2:((w.setCell ⟨B,0,none⟩ (.map (some w.heap.size))).alloc (.map #[] 0)).heap[B]? = some (.cells #[.map (some w.heap.size)] 278 (0,0)):=(Below.heap_alloc _ _ B (by omega)).trans hblk1
 have hown:=World.ownsMap_made (H:=Unit) (w.setCell ⟨B,0,none⟩ (.map (some w.heap.size))) Tryz.prog 9 R10
 rw [hsz] at hown
 have ht1:zg (fun i=>i=B∨(none:Option Nat)=some i) w ((w.setCell ⟨B,0,none⟩ (.map (some w.heap.size))).alloc (.map #[] 0)):=((zg.refl _ w).setCell (p:=⟨B,0,none⟩) (fun _=>.inl rfl) _).alloc _
 have hG:zO ((w.setCell ⟨B,0,none⟩ (.map (some w.heap.size))).alloc (.map #[] 0)) B (some w.heap.size) []:=by
  refine ⟨hblk2,(fun e=>nomatch e),fun c hc=>?_,(fun _ h=>nomatch h),(fun _ h=>nomatch h),(fun _ h=>nomatch h),List.Pairwise.nil⟩
  cases hc
  exact hown
 have hs1:zV ((w.setCell ⟨B,0,none⟩ (.map (some w.heap.size))).alloc (.map #[] 0)) b l:=hs.kept (ht1.block b hbl (by rintro (e | e); exact hbB e; cases e))
 have HG1:=za hG
 have HST:Hid (∀ W,Below ((w.setCell ⟨B,0,none⟩ (.map (some w.heap.size))).alloc (.map #[] 0)).heap.size ((w.setCell ⟨B,0,none⟩ (.map (some w.heap.size))).alloc (.map #[] 0)) W→∃ w',(Instr.mapUpdate 276 (.map (some w.heap.size)) (.string g) (.map (some b))).run Tryz.prog W=.ok () w'∧ql w B none (yR [] g.data.toList (b,l)) w'):=fun W hb=>by
  obtain ⟨w',h1,h2,h3⟩:=V1 (hG.later hb) (hs1.kept (hb.block b (World.ownsMap.lt hs1))) (fun _ h=>nomatch h) (by omega) (by simp) g (Nat.le_trans hg (by decide))
  refine ⟨w',h1,some w.heap.size,h2,(fun c e=>.inr (by cases e; exact Nat.le_refl _)),(ht1.next (zg.of_below hb (fun _=>False)) (fun _ _ f=>f.elim)).next h3 (fun i hi e=>?_)⟩
  omega
 obtain ⟨hc2,hf2⟩:=cell_of_box_a hblk2
 clear h hs hs1 hG hown hblk1 hblk2 ht1 hbl hbB hsz
 go_enter Tryz.func198,Tryz.ntmps198
 go_wp2_with fail
 generalize (w.setCell ⟨B,0,none⟩ (.map (some w.heap.size))).alloc (.map #[] 0)=w1 at *

 refine zB (by kernel_rfl) 7 (fun W=>Below w1.heap.size w1 W) (fun W=>ql w B none (yR [] g.data.toList (b,l)) W) (YPut10 B w.heap.size b g) (fun _=>True) ?F ?hF (by kernel_rfl) (by kernel_rfl) (by kernel_rfl) (by kernel_rfl) (by decide) (zQ (Below.refl _ _)) ?step ?fin
 case hF =>
  intro x
  simp only [List.map_cons,List.map_nil,xU,Act.put,List.setIfInBounds_toArray,List.set_cons_zero,List.set_cons_succ,Nat.zero_add,Nat.reduceAdd]
  exact rfl
 case step =>
  refine ⟨?_,?_,?_,?_,?_,?_,?_,?_,trivial⟩
  ·
   intro x W
   refine ⟨fun _ hW hdep K hK=>?_,(fun h=>absurd h (by decide)),(fun h=>absurd h (by decide))⟩
   clear hdep
   go_simp
   exact hK _ _ rfl hW (fun _ _ h=>h)
  ·
   intro x W
   refine ⟨fun _ hW hdep K hK=>?_,(fun h=>absurd h (by decide)),(fun h=>absurd h (by decide))⟩
   have h0:x 0=_:=hdep 0 rfl
   clear hdep
   simp only [h0] at hK
   go_simp
   exact hK _ _ rfl hW (fun _ _ h=>h)
  ·
   intro x W
   refine ⟨fun _ hW hdep K hK=>?_,(fun h=>absurd h (by decide)),(fun h=>absurd h (by decide))⟩
   have h1:x 1=_:=hdep 1 rfl
   clear hdep
   simp only [h1] at hK
   go_simp
   exact hK _ _ rfl hW (fun _ _ h=>h)
  ·
   intro x W
   refine ⟨fun _ hW hdep K hK=>?_,(fun h=>absurd h (by decide)),(fun h=>absurd h (by decide))⟩
   have h2:x 2=_:=hdep 2 rfl
   have c:=(HG1.out.later hW).cell
   clear hdep
   simp only [h2] at hK
   go_simp
   exact hK _ _ rfl hW (fun _ _ h=>h)
  ·
   intro x W
   refine ⟨fun _ hW hdep K hK=>?_,(fun h=>absurd h (by decide)),(fun h=>absurd h (by decide))⟩
   clear hdep
   go_simp
   exact hK _ _ rfl hW (fun _ _ h=>h)
  ·
   intro x W
   refine ⟨fun _ hW hdep K hK=>?_,(fun h=>absurd h (by decide)),(fun h=>absurd h (by decide))⟩
   have h4:x 4=_:=hdep 4 rfl
   have hc:=HC.out W
   clear hdep
   simp only [h4] at hK
   go_simp
   refine hc.mono ?_
   rintro e W' ⟨rfl,hb⟩
   exact hK _ _ rfl (z7 hW hb) (fun _ _ h=>h)
  ·
   intro x W
   refine ⟨fun _ hW hdep K hK=>?_,(fun h=>absurd h (by decide)),(fun h=>absurd h (by decide))⟩
   clear hdep
   go_simp
   exact hK _ _ rfl hW (fun _ _ h=>h)
  ·
   intro x W
   refine ⟨(fun h=>absurd h (by decide)),fun _ hW hdep K hK=>?_,(fun h=>absurd h (by decide))⟩
   have h3:x 3=_:=hdep 3 rfl
   have h5:x 5=_:=hdep 5 rfl
   have h6:x 6=_:=hdep 6 rfl
   obtain ⟨w',hrun,hg⟩:=HST.out W hW
   clear hdep
   simp only [h3,h5,h6] at hK
   go_simp
   exact hK undef _ trivial hg
 case fin =>
  intro x W hW _
  have HF:=za hW
  clear hW HG1 HST HC
  go_end0
  exact ⟨rfl,HF.out⟩

theorem Xy (B b:Nat) (p:Option Nat) (T:zp) (l:zK) (g:ByteArray) (w:World) (h:zO w B p T) (hs:zV w b l) (hn:∀ x∈T,x.2.1≠b) (hm:p≠some b) (hf:T.length≤1000) (hg:g.size≤1000) :
  Calls Tryz.prog 198 #[.pointer (some ⟨B,0,none⟩),.string g,.map (some b)] w fun e w'=>e=.returned (.tuple #[])∧ql w B p (yR T g.data.toList (b,l)) w':=by
 cases p with
 | none =>
  have:=h.nil rfl
  subst this
  exact put10_none B b l g w h hs hg
 | some m=>exact put10_some B m b T l g w h hs hn (fun e=>hm (by rw [e])) hf hg

set_option maxRecDepth 100000 in
theorem V6 (B:Nat) (p:Option Nat) (T:zp) (g:ByteArray) (w:World) (h:zO w B p T) (hg:g.size≤9223372036854775807) :
  Calls Tryz.prog 224 #[.pointer (some ⟨B,0,none⟩),.string g,.slice none 0 0] w fun e w'=>e=.returned (.tuple #[.map (if zZ (z8 T) g.data.toList []=0 then qh T g.data.toList else none),.int .i64 (zZ (z8 T) g.data.toList [])])∧Below w.heap.size w w':=by
 have HI:=za h
 have hb0:Below w.heap.size w (w.alloc (.cells #[.string g] 9)):=zb (Below.refl _ _) _
 have HN:=za (uw w.heap.size g _ hg (show (w.alloc (.cells #[.string g] 9)).cell? ⟨w.heap.size,0,none⟩=some (.string g) by rw [World.cell?_alloc_at _ _ _ _ rfl]; rfl))
 have HB0:=za hb0
 have HLK:Hid (∀ W,Below w.heap.size w W→(Instr.lookup 276 (.map p) (.string g) true).run Tryz.prog W=.ok (.tuple #[.map (qh T g.data.toList),.bool (zz T g.data.toList)]) W):=fun W hb=>look10 (h.later hb) g (Nat.le_trans hg (by decide))
 unfold zZ
 rw [vD]
 have hbn:zz T g.data.toList=false→qh T g.data.toList=none:=UW
 clear hb0 h
 generalize qh T g.data.toList=o at *
 generalize zz T g.data.toList=b at *
 generalize zh g.data.toList=a at *
 cases a with
 | false =>
  show Calls _ _ _ _ fun e w'=>e=.returned (.tuple #[.map none,.int .i64 10])∧Below w.heap.size w w'
  go_enter Tryz.func224,Tryz.ntmps224
  go_wp2_with fail
  with_reducible refine HN.out.mono ?_
  rintro e w1 ⟨rfl,hb⟩
  have HB:=za (z7 HB0.out hb)
  clear hb HN
  go_wp2
  go_ret2
  exact ⟨rfl,HB.out⟩
 | true =>
  cases b with
  | false =>
   rw [hbn rfl]
   show Calls _ _ _ _ fun e w'=>e=.returned (.tuple #[.map none,.int .i64 8])∧Below w.heap.size w w'
   go_enter Tryz.func224,Tryz.ntmps224
   go_wp2_with fail
   with_reducible refine HN.out.mono ?_
   rintro e w1 ⟨rfl,hb⟩
   have hb1:=z7 HB0.out hb
   have HB1:=za hb1
   have HM1:=za (ZA w1)
   clear hb hb1
   go_wp2_with fail
   with_reducible refine HM1.out.mono ?_
   rintro e w2 ⟨rfl,rfl⟩
   have HB2:=HB1
   clear HM1
   have c2:=(HI.out.later HB2.out).cell
   have l2:=HLK.out _ HB2.out
   clear HN HLK HI
   go_wp2
   go_ret2
   exact ⟨rfl,HB2.out⟩
  | true =>
   show Calls _ _ _ _ fun e w'=>e=.returned (.tuple #[.map o,.int .i64 0])∧Below w.heap.size w w'
   go_enter Tryz.func224,Tryz.ntmps224
   go_wp2_with fail
   with_reducible refine HN.out.mono ?_
   rintro e w1 ⟨rfl,hb⟩
   have hb1:=z7 HB0.out hb
   have HB1:=za hb1
   have HM1:=za (ZA w1)
   clear hb hb1
   go_wp2_with fail
   with_reducible refine HM1.out.mono ?_
   rintro e w2 ⟨rfl,rfl⟩
   have HB2:=HB1
   clear HM1
   have c2:=(HI.out.later HB2.out).cell
   have l2:=HLK.out _ HB2.out
   clear HN HLK HI
   go_wp2
   go_ret2
   exact ⟨rfl,HB2.out⟩

set_option maxRecDepth 100000 in
theorem UR (B:Nat) (p:Option Nat) (T:zp) (g:ByteArray) (A:Nat) (n:ByteArray) (w:World) (h:zO w B p T) (hg:g.size≤9223372036854775807) (hn:n.size≤9223372036854775807) (hA:w.cell? ⟨A,0,none⟩=some (.string n)) :
  Calls Tryz.prog 224 #[.pointer (some ⟨B,0,none⟩),.string g,.slice (some ⟨A,0,none⟩) 1 1] w fun e w'=>e=.returned (.tuple #[.map (if zZ (z8 T) g.data.toList [n.data.toList]=0 then qh T g.data.toList else none),.int .i64 (zZ (z8 T) g.data.toList [n.data.toList])])∧Below w.heap.size w w':=by
 have HI:=za h
 have hb0:Below w.heap.size w (w.alloc (.cells #[.string g] 9)):=zb (Below.refl _ _) _
 have HN:=za (uw w.heap.size g _ hg (show (w.alloc (.cells #[.string g] 9)).cell? ⟨w.heap.size,0,none⟩=some (.string g) by rw [World.cell?_alloc_at _ _ _ _ rfl]; rfl))
 have HB0:=za hb0
 have HLK:Hid (∀ W,Below w.heap.size w W→(Instr.lookup 276 (.map p) (.string g) true).run Tryz.prog W=.ok (.tuple #[.map (qh T g.data.toList),.bool (zz T g.data.toList)]) W):=fun W hb=>look10 (h.later hb) g (Nat.le_trans hg (by decide))
 unfold zZ
 rw [vD]
 have hbn:zz T g.data.toList=false→qh T g.data.toList=none:=UW
 have lA:A<w.heap.size:=World.block_lt_of_cell? w _ hA
 have HM:Hid (∀ W,Below w.heap.size w W→Calls Tryz.prog 197 #[.slice (some ⟨A,0,none⟩) 1 1] W (yL (zh n.data.toList) W)):=fun W hb=>uw A n W hn ((hb.cell (p:=⟨A,0,none⟩) lA).trans hA)
 clear hA lA
 simp only [List.all_cons,List.all_nil,Bool.and_true]
 generalize zh n.data.toList=d at *
 clear hb0 h
 generalize qh T g.data.toList=o at *
 generalize zz T g.data.toList=b at *
 generalize zh g.data.toList=a at *
 cases a with
 | false =>
  show Calls _ _ _ _ fun e w'=>e=.returned (.tuple #[.map none,.int .i64 10])∧Below w.heap.size w w'
  go_enter Tryz.func224,Tryz.ntmps224
  go_wp2_with fail
  with_reducible refine HN.out.mono ?_
  rintro e w1 ⟨rfl,hb⟩
  have HB:=za (z7 HB0.out hb)
  clear hb HN
  go_wp2
  go_ret2
  exact ⟨rfl,HB.out⟩
 | true =>
  cases d with
  | false =>
   show Calls _ _ _ _ fun e w'=>e=.returned (.tuple #[.map none,.int .i64 10])∧Below w.heap.size w w'
   go_enter Tryz.func224,Tryz.ntmps224
   go_wp2_with fail
   with_reducible refine HN.out.mono ?_
   rintro e w1 ⟨rfl,hb⟩
   have hb1:=z7 HB0.out hb
   have HB1:=za hb1
   have HM1:=za (HM.out w1 hb1)
   clear hb hb1
   go_wp2_with fail
   with_reducible refine HM1.out.mono ?_
   rintro e w2 ⟨rfl,hb⟩
   have HB2:=za (z7 HB1.out hb)
   clear hb HM1 HM
   go_wp2
   go_ret2
   exact ⟨rfl,HB2.out⟩
  | true =>
   cases b with
   | false =>
    rw [hbn rfl]
    show Calls _ _ _ _ fun e w'=>e=.returned (.tuple #[.map none,.int .i64 8])∧Below w.heap.size w w'
    go_enter Tryz.func224,Tryz.ntmps224
    go_wp2_with fail
    with_reducible refine HN.out.mono ?_
    rintro e w1 ⟨rfl,hb⟩
    have hb1:=z7 HB0.out hb
    have HB1:=za hb1
    have HM1:=za (HM.out w1 hb1)
    clear hb hb1
    go_wp2_with fail
    with_reducible refine HM1.out.mono ?_
    rintro e w2 ⟨rfl,hb⟩
    have HB2:=za (z7 HB1.out hb)
    clear hb HM1 HM
    have c2:=(HI.out.later HB2.out).cell
    have l2:=HLK.out _ HB2.out
    clear HN HLK HI
    go_wp2
    go_ret2
    exact ⟨rfl,HB2.out⟩
   | true =>
    show Calls _ _ _ _ fun e w'=>e=.returned (.tuple #[.map o,.int .i64 0])∧Below w.heap.size w w'
    go_enter Tryz.func224,Tryz.ntmps224
    go_wp2_with fail
    with_reducible refine HN.out.mono ?_
    rintro e w1 ⟨rfl,hb⟩
    have hb1:=z7 HB0.out hb
    have HB1:=za hb1
    have HM1:=za (HM.out w1 hb1)
    clear hb hb1
    go_wp2_with fail
    with_reducible refine HM1.out.mono ?_
    rintro e w2 ⟨rfl,hb⟩
    have HB2:=za (z7 HB1.out hb)
    clear hb HM1 HM
    have c2:=(HI.out.later HB2.out).cell
    have l2:=HLK.out _ HB2.out
    clear HN HLK HI
    go_wp2
    go_ret2
    exact ⟨rfl,HB2.out⟩
end Go.Proofs.YteegkoicalbkbaaGreatDoor
namespace Go.Proofs.YteegkoicalbkbaaGreatDoor
open Go.RowKit Go.Maps Go.Sort Go.Shelf

theorem lt10 (x y:List UInt8):ltOf Lib.compareBytes x y=bytesBefore x y:=qR x y
theorem swo10:SWO (ltOf Lib.compareBytes) where
 irrefl x:=by rw [lt10]; exact zA x
 trans x y z h1 h2:=by rw [lt10] at *; exact WideShapes.bytes_trans _ _ _ h1 h2
 ntrans x y z h1 h2:=by
  rw [lt10] at *
  cases h:bytesBefore x z
  ·
   rfl
  ·
   by_cases e:x=y
   ·
    subst e; rw [h] at h2; cases h2
   ·
    rcases WideAt.bytes_total x y e with h' | h'
    ·
     rw [h'] at h1; cases h1
    ·
     rw [WideShapes.bytes_trans _ _ _ h' h] at h2; cases h2
theorem tot10 (x y:List UInt8) (h1:ltOf Lib.compareBytes x y=false) (h2:ltOf Lib.compareBytes y x=false):x=y:=by
 rw [lt10] at *
 by_cases e:x=y
 ·
  exact e
 ·
  rcases WideAt.bytes_total x y e with h' | h'
  ·
   rw [h'] at h1; cases h1
  ·
   rw [h'] at h2; cases h2
set_option maxRecDepth 100000 in
theorem Vf (a b:ByteArray) (w:World) :
  Calls Tryz.prog 188 #[.string a,.string b] w fun e w'=>e=.returned (.int .i64 (Lib.compareBytes a.data.toList b.data.toList))∧w'=w:=by
 have HC:=za (Tryz.strings_Compare a b w)
 generalize Lib.compareBytes a.data.toList b.data.toList=r at *
 go_enter Tryz.func188,Tryz.ntmps188
 go_wp2_with fail
 with_reducible refine HC.out.mono ?_
 rintro e w1 ⟨rfl,rfl⟩
 go_wp2
 go_ret
 exact ⟨rfl,rfl⟩
theorem cmp10 (blk off size:Nat) (w:World):CmpLays1 Tryz.prog 188 #[] encStr Lib.compareBytes blk off size w :=
 CmpReads.lays fun _ _ _ _ x y=>(Vf ⟨x.toArray⟩ ⟨y.toArray⟩ _).mono fun e w' ⟨he,hw⟩=>⟨by rw [he],0,hw⟩
theorem Yt (blk cap:Nat) (ss ls:List (List UInt8)) (W:World) (hr:ux ls) (hp:ss.Perm ls) (hH:Holds encStr W blk 0 ss.toArray) (hb:blk<W.heap.size) (hl:ss.length<4611686018427387904) :
  Calls Tryz.prog 242 #[.slice (some ⟨blk,0,none⟩) ss.length cap,.func (.func 188) #[] #[]] W fun e w'=>e=.returned (.tuple #[])∧∃ n os,w'=grow (putRow encStr (Sort.ahead W n) blk 0 ls.toArray) os:=by
 have:=Tryz.slices_SortFunc_total encStr (fun _=>rfl) Lib.compareBytes swo10 188 #[] blk 0 cap ss.toArray W (enters_of Tryz.func188 (by kernel_rfl) rfl) (cmp10 blk 0 _ W) hH hb (by simpa using hl) tot10
 rw [← JI hr hp (fun x y=>!(ltOf Lib.compareBytes) y x) (fun x y=>by rw [lt10])]
 simpa [sortWorld] using this
theorem qW (cap:Nat) (W:World):Calls Tryz.prog 242 #[.slice none 0 cap,.func (.func 188) #[] #[]] W fun e w'=>e=.returned (.tuple #[])∧w'=W :=
 Tryz.slices_SortFunc_none (α:=List UInt8) none cap _ W

def qA {V:Type} (T:yT V) (q:List UInt8×V→Bool) (left:Lit→Bool) (ss:List (List UInt8)):Prop:=ss.Nodup∧∀ x,x∈ss↔∃ p∈T,p.1=x∧q p=true∧left (.string x)=false
section
variable {V:Type} {T:yT V} {q:List UInt8×V→Bool} {left:Lit→Bool} {ss:List (List UInt8)}
theorem qA.start (e:V→DataW Unit):qA T q (Maps.has (uA e T)) []:=⟨List.nodup_nil,fun x=>by
 constructor
 ·
  intro h; cases h
 ·
  rintro ⟨p,hp,rfl,_,h⟩
  rw [Zv,xV.2 ⟨p,hp,rfl⟩] at h
  cases h⟩
theorem Vg {e:V→DataW Unit} (hr:zG T) {x:List UInt8} {y:DataW Unit} (hat:∀ zd,(uA e T).atKey (.string x) zd=y):∃ p∈T,p.1=x∧e p.2=y:=by
 have h1:Maps.has (uA e T) (.string x)=true:=has_true_of_atKey hat
 rw [Zv] at h1
 obtain ⟨v,hv⟩:=je h1
 have h2:=hat .nil
 rw [X8 _ hv] at h2
 exact ⟨(x,v),(yl hr).1 hv,rfl,h2⟩
theorem qA.hit (h:qA T q left ss) {p:List UInt8×V} (hp:p∈T) (hq:q p=true) (hlk:left (.string p.1)=true):qA T q (fun z=>left z && !z.sameKey (.string p.1)) (ss++[p.1]):=by
 have hnew:p.1∉ss:=fun hx=>by obtain ⟨_,_,_,_,h'⟩:=(h.2 _).1 hx; rw [hlk] at h'; cases h'
 refine ⟨List.nodup_append.2 ⟨h.1,by simp,fun a ha b hb=>by simp at hb; subst hb; exact fun e=>hnew (e ▸ ha)⟩,fun y=>?_⟩
 by_cases hy:y=p.1
 ·
  subst hy
  constructor
  ·
   intro _; exact ⟨p,hp,rfl,hq,by simp [Lit.sameKey]⟩
  ·
   intro _; simp
 ·
  simp [h.2 y,hy,Lit.sameKey]
theorem qA.miss (hr:zG T) (h:qA T q left ss) {p:List UInt8×V} (hp:p∈T) (hq:q p=false):qA T q (fun z=>left z && !z.sameKey (.string p.1)) ss:=by
 refine ⟨h.1,fun y=>?_⟩
 rw [h.2 y]
 refine exists_congr fun p'=>and_congr_right fun hp'=>and_congr_right fun e=>and_congr_right fun hq'=>?_
 have:y≠p.1:=fun ey=>by
  have:=Xu hr hp' hp (e.trans ey)
  rw [this,hq] at hq'
  cases hq'
 simp [Lit.sameKey,this]
theorem qA.perm (hr:zG T) (h:qA T q left ss) (hl:∀ kl,left kl=false):ss.Perm (zc (T.filter q)):=by
 refine (List.perm_ext_iff_of_nodup h.1 ?_).2 fun x=>?_
 ·
  have h1:ux (zc (T.filter q)):=zG.names (hr.filter _)
  exact h1.imp fun {a b} hab e=>by subst e; rw [zA] at hab; cases hab
 ·
  rw [h.2 x]
  unfold zc
  simp only [List.mem_map,List.mem_filter,hl]
  constructor
  ·
   rintro ⟨p,hp,rfl,hq,_⟩; exact ⟨p,⟨hp,hq⟩,rfl⟩
  ·
   rintro ⟨p,⟨hp,hq⟩,rfl⟩; exact ⟨p,hp,rfl,hq,trivial⟩
end
theorem vw {w w':World} {P:Program} {k:TypeId} {R:Value→Option (DataW Unit×List MemPlace)} {b r n:Nat} {D:DataW Unit} {left:Lit→Bool} {cnt:Nat} (h:w.ranges P k R b r n D left cnt) (hb:Below w.heap.size w w'):w'.ranges P k R b r n D left cnt:=by
 have h1:=h.owns.lt
 have h2:=h.lt
 obtain ⟨es,clock,since,seen,c0,hb',F,hs,hD,hr,rest⟩:=h
 exact ⟨es,clock,since,seen,c0,(hb.block b h1).trans hb',F,hs,hD,(hb.block r h2).trans hr,rest⟩
theorem Zm:(Tryz.prog.info? 9).map (fun i=>(i.zero,i.size,i.bytes))=some (some (.string ⟨#[]⟩),1,16):=by kernel_rfl

def mkb10 (n:Nat):Value:=.bool (n == 0)
theorem mkb10_ex (c:Bool):∃ n,Value.bool c=mkb10 n:=by
 cases c
 ·
  exact ⟨1,rfl⟩
 ·
  exact ⟨0,rfl⟩

def zX (ls:List (List UInt8)) (w:World) (e:Ending) (w':World):Prop :=
 ∃ v,e=.returned v∧w'.ownsRow w.heap.size 9 1 v ls.length (ls.map encStr)∧Below w.heap.size w w'
theorem zy {w:World} {a b:Nat} {e size n:Nat} {v:Value} {xs:List Value} (h:w.ownsRow b e size v n xs) (hab:a≤b):w.ownsRow a e size v n xs:=by
 refine ⟨h.1,?_⟩
 rcases h.2 with hn | ⟨g,cap,cur,e1,h0,hg,hr⟩
 ·
  exact .inl hn
 ·
  exact .inr ⟨g,cap,cur,e1,Nat.le_trans hab h0,hg,hr⟩
theorem xE {w w':World} {b:Nat} {e size n:Nat} {v:Value} {xs:List Value} (h:w.ownsRow b e size v n xs) (hb:Below w.heap.size w w'):w'.ownsRow b e size v n xs:=by
 refine ⟨h.1,?_⟩
 rcases h.2 with hn | ⟨g,cap,cur,e1,h0,hg,hr⟩
 ·
  exact .inl hn
 ·
  exact .inr ⟨g,cap,cur,e1,h0,(hb.block g (Array.getElem?_eq_some_iff.1 hg).1).trans hg,hr⟩

set_option maxRecDepth 100000 in
theorem Zb (b:Nat) (T:yT (Nat×zK)) (q:List UInt8×(Nat×zK)→Bool) (av:Value) (w:World) (hr:zG T) (hf:T.length≤1000) (hown:w.ownsMap Tryz.prog 9 (R10) b T.length (uA U0 T))
  (hev:∀ W,Below w.heap.size w W→∀ x∈T,Calls Tryz.prog 334 #[.map (some x.2.1),av] W (yL (q x) W)) :
  Calls Tryz.prog 331 #[.map (some b),av] w (zX (zc (T.filter q)) w):=by
 obtain ⟨i0,hi,hz0,hz1,hz2⟩:=info_parts Zm
 have hbl:=hown.lt
 have HEV:=za hev
 have HR:=za hr
 clear hev hr
 have hsz:Maps.size (uA U0 T)=T.length:=vy U0 T
 have HSRT:Hid (∀ blk cap (ss ls:List (List UInt8)) (W:World),ux ls→ss.Perm ls→Holds encStr W blk 0 ss.toArray→blk<W.heap.size→ss.length<4611686018427387904→Calls Tryz.prog 242 #[.slice (some ⟨blk,0,none⟩) ss.length cap,.func (.func 188) #[] #[]] W fun e w'=>e=.returned (.tuple #[])∧∃ n os,w'=grow (putRow encStr (Sort.ahead W n) blk 0 ls.toArray) os):=Yt
 have HSRT0:Hid (∀ cap W,Calls Tryz.prog 242 #[.slice none 0 cap,.func (.func 188) #[] #[]] W fun e w'=>e=.returned (.tuple #[])∧w'=W):=qW
 go_enter Tryz.func331,Tryz.ntmps331
 go_wp2_with (first
  | (at_range; refine wpList_range_own _ rfl _ 276 rfl 9 274 xF Tryz.underlying276 _ b _ _ rfl hown ?_; intro w0 hrg0 hg0 hs0)
  | go_in)
 go_frame
 rw [hsz] at hrg0
 have hs1:w0.heap.size=w.heap.size+1:=hs0
 obtain ⟨len,hlen⟩:∃ len,len=T.length:=⟨_,rfl⟩
 rw [← hlen] at hrg0 hf
 have HLN:=za hlen
 clear hs0 hown hlen hsz
 go_loopw [5] (fun v wr=>∃ (left:Lit→Bool) (cnt:Nat) (ss:List (List UInt8)),Hid (wr.ranges Tryz.prog 9 (R10) b w.heap.size len (uA U0 T) left cnt)∧ss.length+cnt≤len ∧
   Hid (wr.ownsRow w.heap.size 9 1 v ss.length (ss.map encStr))∧Hid (qA T q left ss)∧Hid (Below w.heap.size w wr))
  (fun _ wr=>wr.rangeLeft b w.heap.size)
 case atStart =>
  exact ⟨_,_,[],hrg0,by simp,World.ownsRow_nil _ _ _ _,qA.start U0,(Below.refl _ _).grown hg0 (Nat.le_refl _) (fun j hj=>by cases hj)⟩
 case round =>
  obtain ⟨left,cnt,ss,HRG,hcs,HROW,HC,HNX⟩:=hrel
  have hrg:=HRG.out
  go_wp2_with (first
   | (at_next; refine wpList_next_ranges _ rfl _ rfl 9 xF (R10) encStr Value.map (fun key kl hk=>by obtain ⟨x,hx,_⟩:=Maps.keyOf_str Tryz.underlying9 hk; exact ⟨x,hx⟩) (fun v y hv=>by obtain ⟨c,rfl,_⟩:=ZS hv; exact ⟨c,rfl⟩) b w.heap.size len _ _ _ rfl hrg ?_ ?_)
   | go_in)
  ·
   intro hc0 hl0
   have hp:=HC.out.perm HR.out hl0
   have hrt:ux (zc (T.filter q)):=zG.names (HR.out.filter _)
   have hpl:=hp.length_eq
   have hrow:=HROW.out
   rcases hrow.2 with ⟨hnil,hz⟩ | ⟨g,cap,cur,rfl,hbase,hgb,r1,r2,r3,r4⟩
   ·
    subst hnil
    have hss:ss=[]:=List.eq_nil_of_length_eq_zero hz
    subst hss
    have hne:zc (T.filter q)=[]:=List.eq_nil_of_length_eq_zero hpl.symm
    have HF:Hid (zX (zc (T.filter q)) w (.returned (.slice none 0 0)) wr):=by
     rw [hne]
     exact ⟨_,rfl,World.ownsRow_nil _ _ _ _,HNX.out⟩
    clear hrow hz hne hpl hrt hp hrg hl0
    go_wp2_with (go_at_call 242; (with_reducible refine (HSRT0.out _ _).mono ?_); rintro e w' ⟨rfl,rfl⟩)
    go_ret
    exact HF.out
   ·
    have hH:Holds encStr wr g 0 ss.toArray:=holds_of_block hgb (by simpa using r4)
    have hgl:g<wr.heap.size:=(Array.getElem?_eq_some_iff.1 hgb).1
    have cS:=za (HSRT.out g cap ss _ wr hrt hp hH hgl (by omega))
    have HF:Hid (∀ n os,zX (zc (T.filter q)) w (.returned (.slice (some ⟨g,0,none⟩) ss.length cap)) (grow (putRow encStr (Sort.ahead wr n) g 0 (zc (T.filter q)).toArray) os)):=fun n os=>by
     refine ⟨_,rfl,?_,HNX.out.grown (grownBy_sorted _) HNX.out.size (fun j hj=>by cases hj; exact hbase)⟩
     have:=ownsRow_sorted (ts:=zc (T.filter q)) (n:=n) (os:=os) hpl.symm hbase hgb r1 r2 r3
     rw [← hpl]; exact this
    clear hrow hbase hgb r1 r2 r3 r4 hH hgl hpl hp hrt hrg hl0
    generalize ss.length=n at *
    go_wp2_with (go_at_call 242; (with_reducible refine cS.out.mono ?_); rintro e w' ⟨rfl,nn,os,rfl⟩)
    go_ret
    exact HF.out nn os
  ·
   intro x c kl yd yp w2 cnt2 hkey hlk hv hat hrg2 hlt hg2 hs2 hen
   obtain ⟨x',ex,rfl,_⟩:=Maps.keyOf_str Tryz.underlying9 hkey
   obtain rfl:x=x':=encStr_inj ex
   obtain ⟨p,hpT,rfl,hpe⟩:=Vg HR.out hat
   obtain rfl:(some p.2.1)=c:=by
    obtain ⟨o,ho,hz⟩:=ZS hv
    have e1:c=o:=by injection ho
    have e2:ob10 (some p.2.1)=ob10 o:=hpe.trans hz
    rw [e1]; exact X5 e2
   have hnx2:Below w.heap.size w w2:=HNX.out.grown hg2 HNX.out.size (fun j hj=>by cases hj; exact Nat.le_refl _)
   have hrow2:=HROW.out.kept hg2 (Or.inr (row_ne_iter HROW.out hrg).symm)
   have HEV2:=za (HEV.out w2 hnx2 p hpT)
   have HNX2:=za hnx2
   have HROW2:=za hrow2
   have HRG2:=za hrg2
   have hkz:(fun l:List UInt8=>(Value.string ⟨l.toArray⟩)) p.1=encStr p.1:=rfl
   have HLT:Hid (cnt2<wr.rangeLeft b w.heap.size):=by rw [show wr.rangeLeft b w.heap.size=cnt from hrg.left_eq]; exact hlt
   have HPT:=za hpT
   have HLK:=za hlk
   clear hs2 hnx2 hrow2 hrg2 hkz hpT hat hv hpe hkey hg2 HROW HRG hrg HNX HEV hlk
   have hlt2:ss.length+cnt2+1≤len:=by omega
   have hkv:encStr p.1=.string (yf p.1):=rfl
   have HKV:=za hkv
   rw [hkv] at hen ⊢
   clear hkv
   cases hq:q p with
   | true =>
    rw [hq] at HEV2
    have HC2:=za (HC.out.hit HPT.out hq HLK.out)
    clear HC hq HLK
    generalize yf p.1=kv at *
    go_wp2_with (first
     | (go_at_call 334; (with_reducible refine HEV2.out.mono ?_); rintro e w3 ⟨rfl,hb3⟩; have HROW3:=za (xE HROW2.out hb3); have HRG3:=za (vw HRG2.out hb3); have HNX3:=za (z7 HNX2.out hb3); clear hb3)
     | (at_builtin; refine wpList_append_own _ rfl _ _ 29 rfl w.heap.size 9 i0 (.string ⟨#[]⟩) 1 16 Tryz.underlying29 hi hz0 hz1 hz2 rfl (by decide) _ _ _ rfl (HROW3.out.alloc _) ⟨w3.heap.size,0,none⟩ 1 1 [.string kv] rfl rfl (cell_one_new _ _ _) (by simp [Value.oneCell']) (by unfold maxLen at *; omega) (by omega) (by have:=HNX3.out.size; simp; omega) ?_; intro v' w4 hown' hg4 hnil4; have HOW:=za hown'; have HG4:=za hg4; clear hown' hg4 hnil4; go_frame)
     | go_in)
    have HRG4:=za ((HRG3.out.alloc _).kept HG4.out (row_ne_low HROW3.out hbl) (row_ne_iter HROW3.out HRG3.out))
    have ho:=HOW.out
    rw [← HKV.out] at ho
    have HB4:=za ((z7 HNX3.out (zb (Below.refl _ _) _)).grown HG4.out (by have:=HNX3.out.size; simp; omega) (fun j hj=>(HROW3.out.lt j hj).1))
    have HO4:Hid (w4.ownsRow w.heap.size 9 1 v' (ss++[p.1]).length ((ss++[p.1]).map encStr)):=by
     show w4.ownsRow _ _ _ _ _ _
     simpa using ho
    clear ho
    go_roundw
    case rel=>exact ⟨_,cnt2,ss++[p.1],HRG4,by simp; omega,HO4,HC2,HB4⟩
    case measure=>rw [HRG4.out.left_eq]; exact HLT.out
   | false =>
    rw [hq] at HEV2
    have HC2:=za (HC.out.miss HR.out HPT.out hq)
    clear HC hq HLK
    generalize yf p.1=kv at *
    go_wp2_with (first
     | (go_at_call 334; (with_reducible refine HEV2.out.mono ?_); rintro e w3 ⟨rfl,hb3⟩; have HROW3:=za (xE HROW2.out hb3); have HRG3:=za (vw HRG2.out hb3); have HNX3:=za (z7 HNX2.out hb3); clear hb3)
     | go_in)
    go_roundw
    case rel=>exact ⟨_,cnt2,ss,HRG3,by omega,HROW3,HC2,HNX3⟩
    case measure=>rw [HRG3.out.left_eq]; exact HLT.out

set_option maxRecDepth 100000 in
theorem Xs (av:Value) (w:World):Calls Tryz.prog 331 #[.map none,av] w (zX [] w):=by
 have hrg:=run_range_nilMap (P:=Tryz.prog) w 276 9 274 Tryz.underlying276
 have hnx:∀ ty,(Instr.next (.pointer (some ⟨w.heap.size,0,none⟩)) false ty).run Tryz.prog (w.alloc (.mapIter none 0 #[] 0))=_:=fun ty=>run_next_nilMap _ ty 0 0 #[]
 have HSRT0:Hid (∀ cap W,Calls Tryz.prog 242 #[.slice none 0 cap,.func (.func 188) #[] #[]] W fun e w'=>e=.returned (.tuple #[])∧w'=W):=qW
 have HB:=za (zb (Below.refl w.heap.size w) (.mapIter none 0 #[] 0))
 go_enter Tryz.func331,Tryz.ntmps331
 go_wp2
 refine wp_loop_rounds 1 ?_
 rw [rounds_succ]
 go_wp2_with (go_at_call 242; (with_reducible refine (HSRT0.out _ _).mono ?_); rintro e w' ⟨rfl,rfl⟩)
 go_ret
 exact ⟨_,rfl,World.ownsRow_nil _ _ _ _,HB.out⟩

set_option maxRecDepth 100000 in
theorem Qo (b:Nat) (T:yT (Unit)) (q:List UInt8×(Unit)→Bool) (av:Value) (w:World) (hr:zG T) (hf:T.length≤1000) (hown:w.ownsMap Tryz.prog 9 (plainElem Tryz.prog 4) b T.length (uA et10 T))
  (hev:∀ W,Below w.heap.size w W→∀ x∈T,Calls Tryz.prog 376 #[.bool true,av] W (yL (q x) W)) :
  Calls Tryz.prog 373 #[.map (some b),av] w (zX (zc (T.filter q)) w):=by
 obtain ⟨i0,hi,hz0,hz1,hz2⟩:=info_parts Zm
 have hbl:=hown.lt
 have HEV:=za hev
 have HR:=za hr
 clear hev hr
 have hsz:Maps.size (uA et10 T)=T.length:=vy et10 T
 have HSRT:Hid (∀ blk cap (ss ls:List (List UInt8)) (W:World),ux ls→ss.Perm ls→Holds encStr W blk 0 ss.toArray→blk<W.heap.size→ss.length<4611686018427387904→Calls Tryz.prog 242 #[.slice (some ⟨blk,0,none⟩) ss.length cap,.func (.func 188) #[] #[]] W fun e w'=>e=.returned (.tuple #[])∧∃ n os,w'=grow (putRow encStr (Sort.ahead W n) blk 0 ls.toArray) os):=Yt
 have HSRT0:Hid (∀ cap W,Calls Tryz.prog 242 #[.slice none 0 cap,.func (.func 188) #[] #[]] W fun e w'=>e=.returned (.tuple #[])∧w'=W):=qW
 go_enter Tryz.func373,Tryz.ntmps373
 go_wp2_with (first
  | (at_range; refine wpList_range_own _ rfl _ 273 rfl 9 4 xF Tryz.underlying273 _ b _ _ rfl hown ?_; intro w0 hrg0 hg0 hs0)
  | go_in)
 go_frame
 rw [hsz] at hrg0
 have hs1:w0.heap.size=w.heap.size+1:=hs0
 obtain ⟨len,hlen⟩:∃ len,len=T.length:=⟨_,rfl⟩
 rw [← hlen] at hrg0 hf
 have HLN:=za hlen
 clear hs0 hown hlen hsz
 go_loopw [5] (fun v wr=>∃ (left:Lit→Bool) (cnt:Nat) (ss:List (List UInt8)),Hid (wr.ranges Tryz.prog 9 (plainElem Tryz.prog 4) b w.heap.size len (uA et10 T) left cnt)∧ss.length+cnt≤len ∧
   Hid (wr.ownsRow w.heap.size 9 1 v ss.length (ss.map encStr))∧Hid (qA T q left ss)∧Hid (Below w.heap.size w wr))
  (fun _ wr=>wr.rangeLeft b w.heap.size)
 case atStart =>
  exact ⟨_,_,[],hrg0,by simp,World.ownsRow_nil _ _ _ _,qA.start et10,(Below.refl _ _).grown hg0 (Nat.le_refl _) (fun j hj=>by cases hj)⟩
 case round =>
  obtain ⟨left,cnt,ss,HRG,hcs,HROW,HC,HNX⟩:=hrel
  have hrg:=HRG.out
  go_wp2_with (first
   | (at_next; refine wpList_next_ranges _ rfl _ rfl 9 xF (plainElem Tryz.prog 4) encStr mkb10 (fun key kl hk=>by obtain ⟨x,hx,_⟩:=Maps.keyOf_str Tryz.underlying9 hk; exact ⟨x,hx⟩) (fun v y hv=>by obtain ⟨c,rfl,_⟩:=jC hv; exact mkb10_ex c) b w.heap.size len _ _ _ rfl hrg ?_ ?_)
   | go_in)
  ·
   intro hc0 hl0
   have hp:=HC.out.perm HR.out hl0
   have hrt:ux (zc (T.filter q)):=zG.names (HR.out.filter _)
   have hpl:=hp.length_eq
   have hrow:=HROW.out
   rcases hrow.2 with ⟨hnil,hz⟩ | ⟨g,cap,cur,rfl,hbase,hgb,r1,r2,r3,r4⟩
   ·
    subst hnil
    have hss:ss=[]:=List.eq_nil_of_length_eq_zero hz
    subst hss
    have hne:zc (T.filter q)=[]:=List.eq_nil_of_length_eq_zero hpl.symm
    have HF:Hid (zX (zc (T.filter q)) w (.returned (.slice none 0 0)) wr):=by
     rw [hne]
     exact ⟨_,rfl,World.ownsRow_nil _ _ _ _,HNX.out⟩
    clear hrow hz hne hpl hrt hp hrg hl0
    go_wp2_with (go_at_call 242; (with_reducible refine (HSRT0.out _ _).mono ?_); rintro e w' ⟨rfl,rfl⟩)
    go_ret
    exact HF.out
   ·
    have hH:Holds encStr wr g 0 ss.toArray:=holds_of_block hgb (by simpa using r4)
    have hgl:g<wr.heap.size:=(Array.getElem?_eq_some_iff.1 hgb).1
    have cS:=za (HSRT.out g cap ss _ wr hrt hp hH hgl (by omega))
    have HF:Hid (∀ n os,zX (zc (T.filter q)) w (.returned (.slice (some ⟨g,0,none⟩) ss.length cap)) (grow (putRow encStr (Sort.ahead wr n) g 0 (zc (T.filter q)).toArray) os)):=fun n os=>by
     refine ⟨_,rfl,?_,HNX.out.grown (grownBy_sorted _) HNX.out.size (fun j hj=>by cases hj; exact hbase)⟩
     have:=ownsRow_sorted (ts:=zc (T.filter q)) (n:=n) (os:=os) hpl.symm hbase hgb r1 r2 r3
     rw [← hpl]; exact this
    clear hrow hbase hgb r1 r2 r3 r4 hH hgl hpl hp hrt hrg hl0
    generalize ss.length=n at *
    go_wp2_with (go_at_call 242; (with_reducible refine cS.out.mono ?_); rintro e w' ⟨rfl,nn,os,rfl⟩)
    go_ret
    exact HF.out nn os
  ·
   intro x c kl yd yp w2 cnt2 hkey hlk hv hat hrg2 hlt hg2 hs2 hen
   obtain ⟨x',ex,rfl,_⟩:=Maps.keyOf_str Tryz.underlying9 hkey
   obtain rfl:x=x':=encStr_inj ex
   obtain ⟨p,hpT,rfl,hpe⟩:=Vg HR.out hat
   have hcv:mkb10 c=.bool true:=by
    obtain ⟨o,ho,hz⟩:=jC hv
    have e2:(.lit (.bool true):DataW Unit)=.lit (.bool o):=hpe.trans (congrArg Prod.fst hz)
    injection e2 with e2
    injection e2 with e2
    rw [ho,← e2]
   rw [hcv] at hen ⊢
   clear hcv
   have hnx2:Below w.heap.size w w2:=HNX.out.grown hg2 HNX.out.size (fun j hj=>by cases hj; exact Nat.le_refl _)
   have hrow2:=HROW.out.kept hg2 (Or.inr (row_ne_iter HROW.out hrg).symm)
   have HEV2:=za (HEV.out w2 hnx2 p hpT)
   have HNX2:=za hnx2
   have HROW2:=za hrow2
   have HRG2:=za hrg2
   have hkz:(fun l:List UInt8=>(Value.string ⟨l.toArray⟩)) p.1=encStr p.1:=rfl
   have HLT:Hid (cnt2<wr.rangeLeft b w.heap.size):=by rw [show wr.rangeLeft b w.heap.size=cnt from hrg.left_eq]; exact hlt
   have HPT:=za hpT
   have HLK:=za hlk
   clear hs2 hnx2 hrow2 hrg2 hkz hpT hat hv hpe hkey hg2 HROW HRG hrg HNX HEV hlk
   have hlt2:ss.length+cnt2+1≤len:=by omega
   have hkv:encStr p.1=.string (yf p.1):=rfl
   have HKV:=za hkv
   rw [hkv] at hen ⊢
   clear hkv
   cases hq:q p with
   | true =>
    rw [hq] at HEV2
    have HC2:=za (HC.out.hit HPT.out hq HLK.out)
    clear HC hq HLK
    generalize yf p.1=kv at *
    go_wp2_with (first
     | (go_at_call 376; (with_reducible refine HEV2.out.mono ?_); rintro e w3 ⟨rfl,hb3⟩; have HROW3:=za (xE HROW2.out hb3); have HRG3:=za (vw HRG2.out hb3); have HNX3:=za (z7 HNX2.out hb3); clear hb3)
     | (at_builtin; refine wpList_append_own _ rfl _ _ 29 rfl w.heap.size 9 i0 (.string ⟨#[]⟩) 1 16 Tryz.underlying29 hi hz0 hz1 hz2 rfl (by decide) _ _ _ rfl (HROW3.out.alloc _) ⟨w3.heap.size,0,none⟩ 1 1 [.string kv] rfl rfl (cell_one_new _ _ _) (by simp [Value.oneCell']) (by unfold maxLen at *; omega) (by omega) (by have:=HNX3.out.size; simp; omega) ?_; intro v' w4 hown' hg4 hnil4; have HOW:=za hown'; have HG4:=za hg4; clear hown' hg4 hnil4; go_frame)
     | go_in)
    have HRG4:=za ((HRG3.out.alloc _).kept HG4.out (row_ne_low HROW3.out hbl) (row_ne_iter HROW3.out HRG3.out))
    have ho:=HOW.out
    rw [← HKV.out] at ho
    have HB4:=za ((z7 HNX3.out (zb (Below.refl _ _) _)).grown HG4.out (by have:=HNX3.out.size; simp; omega) (fun j hj=>(HROW3.out.lt j hj).1))
    have HO4:Hid (w4.ownsRow w.heap.size 9 1 v' (ss++[p.1]).length ((ss++[p.1]).map encStr)):=by
     show w4.ownsRow _ _ _ _ _ _
     simpa using ho
    clear ho
    go_roundw
    case rel=>exact ⟨_,cnt2,ss++[p.1],HRG4,by simp; omega,HO4,HC2,HB4⟩
    case measure=>rw [HRG4.out.left_eq]; exact HLT.out
   | false =>
    rw [hq] at HEV2
    have HC2:=za (HC.out.miss HR.out HPT.out hq)
    clear HC hq HLK
    generalize yf p.1=kv at *
    go_wp2_with (first
     | (go_at_call 376; (with_reducible refine HEV2.out.mono ?_); rintro e w3 ⟨rfl,hb3⟩; have HROW3:=za (xE HROW2.out hb3); have HRG3:=za (vw HRG2.out hb3); have HNX3:=za (z7 HNX2.out hb3); clear hb3)
     | go_in)
    go_roundw
    case rel=>exact ⟨_,cnt2,ss,HRG3,by omega,HROW3,HC2,HNX3⟩
    case measure=>rw [HRG3.out.left_eq]; exact HLT.out

set_option maxRecDepth 100000 in
theorem riseb10_nil (av:Value) (w:World):Calls Tryz.prog 373 #[.map none,av] w (zX [] w):=by
 have hrg:=run_range_nilMap (P:=Tryz.prog) w 273 9 4 Tryz.underlying273
 have hnx:∀ ty,(Instr.next (.pointer (some ⟨w.heap.size,0,none⟩)) false ty).run Tryz.prog (w.alloc (.mapIter none 0 #[] 0))=_:=fun ty=>run_next_nilMap _ ty 0 0 #[]
 have HSRT0:Hid (∀ cap W,Calls Tryz.prog 242 #[.slice none 0 cap,.func (.func 188) #[] #[]] W fun e w'=>e=.returned (.tuple #[])∧w'=W):=qW
 have HB:=za (zb (Below.refl w.heap.size w) (.mapIter none 0 #[] 0))
 go_enter Tryz.func373,Tryz.ntmps373
 go_wp2
 refine wp_loop_rounds 1 ?_
 rw [rounds_succ]
 go_wp2_with (go_at_call 242; (with_reducible refine (HSRT0.out _ _).mono ?_); rintro e w' ⟨rfl,rfl⟩)
 go_ret
 exact ⟨_,rfl,World.ownsRow_nil _ _ _ _,HB.out⟩
end Go.Proofs.YteegkoicalbkbaaGreatDoor
namespace Go.Proofs.YteegkoicalbkbaaGreatDoor
open Go.RowKit Go.Maps

theorem qN {n:List UInt8} (h:zh n=true):n.length≤12:=by
 unfold zh uM at h
 simp only [Bool.and_eq_true,decide_eq_true_eq] at h
 exact h.1.1.2.1
theorem qc {s:ByteArray} (h:zh s.data.toList=true):s.size≤1000:=by
 have:=qN h
 rw [zx] at this
 omega

theorem ql.goes {w w2 w':World} {B b:Nat} {p:Option Nat} {T:zp} {k:List UInt8} {l:zK} (h:ql w2 B p (yR T k (b,l)) w') (hb:Below w.heap.size w w2) (hbn:w.heap.size≤b):zR w B p T (yR (z8 T) k l) w':=by
 obtain ⟨p',hd,hp,ht⟩:=h
 refine ⟨p',_,hd,Xz T k (b,l),fun c e=>(hp c e).imp id (fun h=>Nat.le_trans hb.size h),fun x hx=>?_,(zg.of_below hb _).next ht (fun i _ h=>h.elim .inl (fun h=>.inr (.inl h)))⟩
 rcases yJ.1 hx with rfl | ⟨hx,_⟩
 ·
  exact .inr hbn
 ·
  exact .inl ⟨x,hx,rfl⟩
theorem gdrop10 {w:World} {B:Nat} {p:Option Nat} {T:zp} (h:zO w B p T) (s:ByteArray) (hs:s.size≤maxLen) (ty:TypeId) :
  ∃ w',(Builtin.delete_ #[276,9] ty #[.map p,.string s]).run Tryz.prog w=.ok (.tuple #[]) w'∧zR w B p T (xK (z8 T) s.data.toList) w':=by
 cases p with
 | none =>
  have hL:=h.nil rfl
  subst hL
  exact ⟨w,Maps.drop_nil xF Tryz.underlying276 (Zl s hs) ty,zR.still h (Below.refl _ _)⟩
 | some m =>
  obtain ⟨w',hrun,hown,ht⟩:=(h.map m rfl).drop xF Tryz.underlying276 (Zl s hs) ty
  rw [Je] at hown
  have htn:zg (fun i=>i=m) w w':=(zg.refl _ w).grown ht.grown (fun k hk _=>by cases hk; rfl)
  refine ⟨w',hrun,some m,xK T s.data.toList,⟨(htn.block B h.lt (fun e=>h.mne m rfl e.symm)).trans h.blk,(fun e=>nomatch e),fun c hc=>?_,fun x hx=>?_,fun x hx y hy=>h.one x (yz.1 hx).1 y (yz.1 hy).1,fun x hx=>h.off x (yz.1 hx).1,yw h.rise _⟩,plain10_del T _,(fun _ e=>.inl e),fun x hx=>.inl ⟨x,(yz.1 hx).1,rfl⟩,((zg.refl _ w).next htn fun i _ e=>.inr (.inl (by rw [e])))⟩
  ·
   cases hc
   have:=vT hown
   rwa [vy] at this
  ·
   have hx':=(yz.1 hx).1
   exact (h.sets x hx').kept (htn.block _ (h.slt x hx') (fun e=>h.off x hx' (by rw [e])))
theorem zR.set {w w1 w':World} {B:Nat} {p:Option Nat} {T:zp} (h:zO w B p T) (hb:Below w.heap.size w w1) {x:List UInt8×(Nat×zK)} (hx:x∈T) (f:zK→zK) (hs:zV w' x.2.1 (f x.2.2)) (ht:zg (fun i=>i=x.2.1) w1 w'):zR w B p T (Yp f (z8 T) x.1) w':=by
 refine ⟨p,_,(h.later hb).turned hx f hs ht,plain10_upd f T x.1,(fun _ e=>.inl e),fun y hy=>.inl ?_,(zg.of_below hb _).next ht (fun i _ e=>.inr (.inr ⟨x,hx,e.symm⟩))⟩
 obtain ⟨q,hq,rfl⟩:=fY hy
 refine ⟨q,hq,?_⟩
 show q.2.1=(if q.1=x.1 then (q.2.1,f q.2.2) else q.2).1
 split <;> rfl
theorem at10 {T:zp} {k:List UInt8} (h:zz T k=true):∃ x∈T,x.1=k:=xV.1 h

set_option maxRecDepth 100000 in
theorem Fm (B:Nat) (p:Option Nat) (T:zp) (g:ByteArray) (w:World) (h:zO w B p T) (hf:T.length≤6) (hg:g.size≤9223372036854775807) :
  Calls Tryz.prog 160 #[.pointer (some ⟨B,0,none⟩),.string g] w fun e w'=>e=.returned (.int .i64 (qE (z8 T) g.data.toList))∧zR w B p T (jr (z8 T) g.data.toList) w':=by
 have HI:=za h
 have HB0:Hid (Below w.heap.size w (w.alloc (.cells #[.string g] 9))):=zb (Below.refl _ _) _
 have HN:=za (uw w.heap.size g _ hg (show (w.alloc (.cells #[.string g] 9)).cell? ⟨w.heap.size,0,none⟩=some (.string g) by rw [World.cell?_alloc_at _ _ _ _ rfl]; rfl))
 have HLK:Hid (∀ W,Below w.heap.size w W→(Instr.lookup 276 (.map p) (.string g) true).run Tryz.prog W=.ok (.tuple #[.map (qh T g.data.toList),.bool (zz T g.data.toList)]) W):=fun W hb=>look10 (h.later hb) g (Nat.le_trans hg (by decide))
 have HLE:Hid (∀ W ty,Below w.heap.size w W→(Builtin.len_ #[276] ty #[.map p]).run Tryz.prog W=.ok (.int .i64 T.length) W):=fun W ty hb=>len10 (h.later hb) ty
 have hmm:=@run_makeMap Tryz.prog
 unfold jr qE
 rw [vD,uZ]
 have HPT:Hid (zh g.data.toList=true→∀ W,Below w.heap.size w W→Calls Tryz.prog 198 #[.pointer (some ⟨B,0,none⟩),.string g,.map (some W.heap.size)] (W.alloc (.map #[] 0)) fun e w'=>e=.returned (.tuple #[])∧zR w B p T (yR (z8 T) g.data.toList []) w'):=fun hn W hb=>by
  have hb2:Below w.heap.size w (W.alloc (.map #[] 0)):=z7 hb (zb (Below.refl _ _) _)
  refine (Xy B W.heap.size p T [] g _ (h.later hb2) (set10_made W) (fun x hx e=>?_) (fun e=>?_) (by omega) (qc hn)).mono fun e w' ⟨he,hp⟩=>⟨he,hp.goes hb2 hb.size⟩
  ·
   have:=h.slt x hx; have:=hb.size; omega
  ·
   have:=h.mlt _ e; have:=hb.size; omega
 clear h
 generalize qh T g.data.toList=o at *
 generalize zz T g.data.toList=b at *
 generalize zh g.data.toList=a at *
 generalize yR (z8 T) g.data.toList []=S2 at *
 cases a with
 | false =>
  show Calls _ _ _ _ fun e w'=>e=.returned (.int .i64 10)∧zR w B p T (z8 T) w'
  go_enter Tryz.func160,Tryz.ntmps160
  go_wp2_with fail
  with_reducible refine HN.out.mono ?_
  rintro e w1 ⟨rfl,hb⟩
  have HB:=za (z7 HB0.out hb)
  clear hb HN
  go_wp2
  go_ret
  exact ⟨rfl,zR.still HI.out HB.out⟩
 | true =>
  cases b with
  | true =>
   show Calls _ _ _ _ fun e w'=>e=.returned (.int .i64 9)∧zR w B p T (z8 T) w'
   go_enter Tryz.func160,Tryz.ntmps160
   go_wp2_with fail
   with_reducible refine HN.out.mono ?_
   rintro e w1 ⟨rfl,hb⟩
   have hb1:=z7 HB0.out hb
   have HB:=za hb1
   have c1:=(HI.out.later hb1).cell
   have l1:=HLK.out _ hb1
   clear hb HN HLK hb1
   go_wp2
   go_ret
   exact ⟨rfl,zR.still HI.out HB.out⟩
  | false =>
   by_cases h6:6≤T.length
   ·
    have e7:(if true=true then if false=true then (9:Int) else if 6≤T.length then 7 else 0 else 10)=7:=by simp [h6]
    rw [e7,if_neg (by decide)]
    have z6:(T.length:Int) ≥ 6:=by omega
    have x6:decide ((T.length:Int) ≥ 6)=true:=decide_eq_true z6
    clear e7
    generalize hTL:T.length=tl at *
    have HTL:=za hTL
    clear hTL
    go_enter Tryz.func160,Tryz.ntmps160
    go_wp2_with fail
    with_reducible refine HN.out.mono ?_
    rintro e w1 ⟨rfl,hb⟩
    have hb1:=z7 HB0.out hb
    have HB:=za hb1
    have c1:=(HI.out.later hb1).cell
    have l1:=HLK.out _ hb1
    have l2:=fun ty=>HLE.out _ ty hb1
    clear hb HN HLK hb1 HLE
    go_wp2
    go_ret
    exact ⟨rfl,zR.still HI.out HB.out⟩
   ·
    have e0:(if true=true then if false=true then (9:Int) else if 6≤T.length then 7 else 0 else 10)=0:=by simp [h6]
    rw [e0,if_pos rfl]
    have z6:¬ (T.length:Int) ≥ 6:=by omega
    have x6:decide ((T.length:Int) ≥ 6)=false:=decide_eq_false z6
    have HP2:=za (HPT.out rfl)
    clear e0 HPT
    generalize hTL:T.length=tl at *
    have HTL:=za hTL
    clear hTL
    go_enter Tryz.func160,Tryz.ntmps160
    go_wp2_with fail
    with_reducible refine HN.out.mono ?_
    rintro e w1 ⟨rfl,hb⟩
    have hb1:=z7 HB0.out hb
    have c1:=(HI.out.later hb1).cell
    have l1:=HLK.out _ hb1
    have l2:=fun ty=>HLE.out _ ty hb1
    have HP3:=za (HP2.out _ hb1)
    clear hb HN HLK hb1 HLE HP2
    go_wp2_with fail
    with_reducible refine HP3.out.mono ?_
    rintro e w2 ⟨rfl,hg⟩
    have HG:=za hg
    clear hg HP3 c1 l1 l2
    go_wp2
    go_ret
    exact ⟨rfl,HG.out⟩

set_option maxRecDepth 100000 in
theorem FR (B:Nat) (p:Option Nat) (T:zp) (g:ByteArray) (w:World) (h:zO w B p T) (hg:g.size≤9223372036854775807) :
  Calls Tryz.prog 364 #[.pointer (some ⟨B,0,none⟩),.string g] w fun e w'=>e=.returned (.int .i64 (qg (z8 T) g.data.toList))∧zR w B p T (fP (z8 T) g.data.toList) w':=by
 have HI:=za h
 have HFN:=za (V6 B p T g w h hg)
 have HDR:Hid (∀ W ty,Below w.heap.size w W→∃ w',(Builtin.delete_ #[276,9] ty #[.map p,.string g]).run Tryz.prog W=.ok (.tuple #[]) w'∧zR w B p T (xK (z8 T) g.data.toList) w'):=fun W ty hb=>by
  obtain ⟨w',h1,h2⟩:=gdrop10 (h.later hb) g (Nat.le_trans hg (by decide)) ty
  exact ⟨w',h1,h2.ahead hb⟩
 unfold fP qg
 clear h
 by_cases hE:zZ (z8 T) g.data.toList []=0
 ·
  rw [hE] at HFN ⊢
  rw [if_pos rfl] at HFN ⊢
  clear hE
  generalize xK (z8 T) g.data.toList=S2 at *
  generalize qh T g.data.toList=o at *
  go_enter Tryz.func364,Tryz.ntmps364
  go_wp2_with fail
  with_reducible refine HFN.out.mono ?_
  rintro e w1 ⟨rfl,hb⟩
  have c1:=(HI.out.later hb).cell
  obtain ⟨w2,hrun,hg2⟩:=HDR.out w1 0 hb
  have HG:=za hg2
  clear hb hg2 HFN HDR HI
  go_wp2
  go_ret
  exact ⟨rfl,HG.out⟩
 ·
  rw [if_neg hE]
  rw [if_neg hE] at HFN
  generalize zZ (z8 T) g.data.toList []=r at *
  go_enter Tryz.func364,Tryz.ntmps364
  go_wp2_with fail
  with_reducible refine HFN.out.mono ?_
  rintro e w1 ⟨rfl,hb⟩
  have HB:=za hb
  clear hb HFN HDR
  go_wp2
  go_ret
  exact ⟨rfl,zR.still HI.out HB.out⟩

set_option maxRecDepth 100000 in
theorem Ft (B:Nat) (p:Option Nat) (T:zp) (g n:ByteArray) (w:World) (h:zO w B p T) (hl:∀ x∈T,x.2.2.length≤1000) (hg:g.size≤9223372036854775807) (hn:n.size≤9223372036854775807) :
  Calls Tryz.prog 200 #[.pointer (some ⟨B,0,none⟩),.string g,.string n] w fun e w'=>e=.returned (.int .i64 (qF (z8 T) g.data.toList n.data.toList))∧zR w B p T (jb (z8 T) g.data.toList n.data.toList) w':=by
 have HI:=za h
 have hb0:Below w.heap.size w (w.alloc (.cells #[.string n] 9)):=zb (Below.refl _ _) _
 have HFN:=za (UR B p T g w.heap.size n _ (h.later hb0) hg hn (show (w.alloc (.cells #[.string n] 9)).cell? ⟨w.heap.size,0,none⟩=some (.string n) by rw [World.cell?_alloc_at _ _ _ _ rfl]; rfl))
 have HB0:=za hb0
 unfold jb qF
 clear hb0
 by_cases hE:zZ (z8 T) g.data.toList [n.data.toList]=0
 ·
  obtain ⟨z1,z2,z3⟩:=qy hE
  rw [vD] at z3
  obtain ⟨x,hx,hxg⟩:=at10 z3
  have hsz:n.size≤1000:=qc (by simpa using z2)
  have hin:ue (z8 T) g.data.toList n.data.toList=zz x.2.2 n.data.toList:=by
   unfold ue
   rw [← hxg,fF h.rise hx]
  have hblk:qh T g.data.toList=some x.2.1:=by rw [← hxg]; exact vL h.rise hx
  rw [hE,hblk] at HFN
  rw [if_pos rfl] at HFN
  rw [hE,if_pos rfl,hin]
  have HLK:Hid (∀ W,Below w.heap.size w W→(Instr.lookup 274 (.map (some x.2.1)) (.string n) false).run Tryz.prog W=.ok (.bool (zz x.2.2 n.data.toList)) W):=fun W hb=>has10 ((h.sets x hx).kept (hb.block _ (h.slt x hx))) n (Nat.le_trans hn (by decide))
  have HDO:Hid (∀ W,Below w.heap.size w W→Calls Tryz.prog 225 #[.map (some x.2.1),.string n] W fun e w'=>e=.returned (.tuple #[])∧zR w B p T (Yp (fun l=>yR l n.data.toList ()) (z8 T) x.1) w'):=fun W hb =>
   (qC x.2.1 x.2.2 n W ((h.sets x hx).kept (hb.block _ (h.slt x hx))) (hl x hx) hsz).mono fun e w' ⟨he,h2,h3⟩=>⟨he,zR.set h hb hx (fun l=>yR l n.data.toList ()) h2 h3⟩
  clear h hE z1 z2 z3 hin hblk hsz hl
  rw [hxg] at HDO
  clear hx hxg
  generalize Yp (fun l=>yR l n.data.toList ()) (z8 T) g.data.toList=S2 at *
  generalize zz x.2.2 n.data.toList=r at *
  generalize x.2.1=b at *
  cases r with
  | true =>
   show Calls _ _ _ _ fun e w'=>e=.returned (.int .i64 9)∧zR w B p T (z8 T) w'
   go_enter Tryz.func200,Tryz.ntmps200
   go_wp2_with fail
   with_reducible refine HFN.out.mono ?_
   rintro e w1 ⟨rfl,hb⟩
   have hb1:=z7 HB0.out hb
   have HB:=za hb1
   have l1:=HLK.out _ hb1
   clear hb hb1 HFN HLK HDO
   go_wp2
   go_ret
   exact ⟨rfl,zR.still HI.out HB.out⟩
  | false =>
   show Calls _ _ _ _ fun e w'=>e=.returned (.int .i64 0)∧zR w B p T S2 w'
   go_enter Tryz.func200,Tryz.ntmps200
   go_wp2_with fail
   with_reducible refine HFN.out.mono ?_
   rintro e w1 ⟨rfl,hb⟩
   have hb1:=z7 HB0.out hb
   have l1:=HLK.out _ hb1
   have HD1:=za (HDO.out _ hb1)
   clear hb hb1 HFN HLK HDO
   go_wp2_with fail
   with_reducible refine HD1.out.mono ?_
   rintro e w2 ⟨rfl,hg⟩
   have HG:=za hg
   clear hg HD1 l1
   go_wp2
   go_ret
   exact ⟨rfl,HG.out⟩
 ·
  rw [if_neg hE,if_neg hE]
  rw [if_neg hE] at HFN
  clear h
  generalize zZ (z8 T) g.data.toList [n.data.toList]=r at *
  go_enter Tryz.func200,Tryz.ntmps200
  go_wp2_with fail
  with_reducible refine HFN.out.mono ?_
  rintro e w1 ⟨rfl,hb⟩
  have HB:=za (z7 HB0.out hb)
  clear hb HFN
  go_wp2
  go_ret
  exact ⟨rfl,zR.still HI.out HB.out⟩

set_option maxRecDepth 100000 in
theorem QO (B:Nat) (p:Option Nat) (T:zp) (g n:ByteArray) (w:World) (h:zO w B p T) (hg:g.size≤9223372036854775807) (hn:n.size≤9223372036854775807) :
  Calls Tryz.prog 365 #[.pointer (some ⟨B,0,none⟩),.string g,.string n] w fun e w'=>e=.returned (.int .i64 (Y7 (z8 T) g.data.toList n.data.toList))∧zR w B p T (Y6 (z8 T) g.data.toList n.data.toList) w':=by
 have HI:=za h
 have hb0:Below w.heap.size w (w.alloc (.cells #[.string n] 9)):=zb (Below.refl _ _) _
 have HFN:=za (UR B p T g w.heap.size n _ (h.later hb0) hg hn (show (w.alloc (.cells #[.string n] 9)).cell? ⟨w.heap.size,0,none⟩=some (.string n) by rw [World.cell?_alloc_at _ _ _ _ rfl]; rfl))
 have HB0:=za hb0
 unfold Y6 Y7
 clear hb0
 by_cases hE:zZ (z8 T) g.data.toList [n.data.toList]=0
 ·
  obtain ⟨z1,z2,z3⟩:=qy hE
  rw [vD] at z3
  obtain ⟨x,hx,hxg⟩:=at10 z3
  have hsz:n.size≤1000:=qc (by simpa using z2)
  have hin:ue (z8 T) g.data.toList n.data.toList=zz x.2.2 n.data.toList:=by
   unfold ue
   rw [← hxg,fF h.rise hx]
  have hblk:qh T g.data.toList=some x.2.1:=by rw [← hxg]; exact vL h.rise hx
  rw [hE,hblk] at HFN
  rw [if_pos rfl] at HFN
  rw [hE,if_pos rfl,hin]
  have HLK:Hid (∀ W,Below w.heap.size w W→(Instr.lookup 274 (.map (some x.2.1)) (.string n) false).run Tryz.prog W=.ok (.bool (zz x.2.2 n.data.toList)) W):=fun W hb=>has10 ((h.sets x hx).kept (hb.block _ (h.slt x hx))) n (Nat.le_trans hn (by decide))
  have HDO:Hid (∀ W ty,Below w.heap.size w W→∃ w',(Builtin.delete_ #[274,9] ty #[.map (some x.2.1),.string n]).run Tryz.prog W=.ok (.tuple #[]) w'∧zR w B p T (Yp (fun l=>xK l n.data.toList) (z8 T) x.1) w'):=fun W ty hb=>by
   obtain ⟨w',h1,h2,h3⟩:=drop10 ((h.sets x hx).kept (hb.block _ (h.slt x hx))) n (Nat.le_trans hn (by decide)) ty
   exact ⟨w',h1,zR.set h hb hx (fun l=>xK l n.data.toList) h2 ((zg.refl _ W).grown h3.grown (fun k hk _=>by cases hk; rfl))⟩
  clear h hE z1 z2 z3 hin hblk hsz
  rw [hxg] at HDO
  clear hx hxg
  generalize Yp (fun l=>xK l n.data.toList) (z8 T) g.data.toList=S2 at *
  generalize zz x.2.2 n.data.toList=r at *
  generalize x.2.1=b at *
  cases r with
  | false =>
   show Calls _ _ _ _ fun e w'=>e=.returned (.int .i64 12)∧zR w B p T (z8 T) w'
   go_enter Tryz.func365,Tryz.ntmps365
   go_wp2_with fail
   with_reducible refine HFN.out.mono ?_
   rintro e w1 ⟨rfl,hb⟩
   have hb1:=z7 HB0.out hb
   have HB:=za hb1
   have l1:=HLK.out _ hb1
   clear hb hb1 HFN HLK HDO
   go_wp2
   go_ret
   exact ⟨rfl,zR.still HI.out HB.out⟩
  | true =>
   show Calls _ _ _ _ fun e w'=>e=.returned (.int .i64 0)∧zR w B p T S2 w'
   go_enter Tryz.func365,Tryz.ntmps365
   go_wp2_with fail
   with_reducible refine HFN.out.mono ?_
   rintro e w1 ⟨rfl,hb⟩
   have hb1:=z7 HB0.out hb
   have l1:=HLK.out _ hb1
   obtain ⟨w2,hrun,hg2⟩:=HDO.out w1 0 hb1
   have HG:=za hg2
   clear hb hb1 HFN HLK HDO hg2
   go_wp2
   go_ret
   exact ⟨rfl,HG.out⟩
 ·
  rw [if_neg hE,if_neg hE]
  rw [if_neg hE] at HFN
  clear h
  generalize zZ (z8 T) g.data.toList [n.data.toList]=r at *
  go_enter Tryz.func365,Tryz.ntmps365
  go_wp2_with fail
  with_reducible refine HFN.out.mono ?_
  rintro e w1 ⟨rfl,hb⟩
  have HB:=za (z7 HB0.out hb)
  clear hb HFN
  go_wp2
  go_ret
  exact ⟨rfl,zR.still HI.out HB.out⟩

set_option maxRecDepth 100000 in
theorem XK (B:Nat) (p:Option Nat) (T:zp) (g:ByteArray) (w:World) (h:zO w B p T) (hs:∀ x∈T,zG x.2.2) (hl:∀ x∈T,x.2.2.length≤1000) (hg:g.size≤9223372036854775807) :
  Calls Tryz.prog 367 #[.pointer (some ⟨B,0,none⟩),.string g] w fun e w'=>∃ v,e=.returned (.tuple #[v,.int .i64 (qg (z8 T) g.data.toList)])∧w'.ownsRow w.heap.size 9 1 v (fI (z8 T) g.data.toList).length ((fI (z8 T) g.data.toList).map encStr)∧Below w.heap.size w w':=by
 have HFN:=za (V6 B p T g w h hg)
 have HRS:Hid (∀ W,Below w.heap.size w W→Calls Tryz.prog 373 #[.map (if zZ (z8 T) g.data.toList []=0 then qh T g.data.toList else none),.slice none 0 0] W (zX (fI (z8 T) g.data.toList) W)):=fun W hb=>by
  unfold fI qg
  by_cases hE:zZ (z8 T) g.data.toList []=0
  ·
   obtain ⟨z1,z2,z3⟩:=qy hE
   rw [vD] at z3
   obtain ⟨x,hx,hxg⟩:=at10 z3
   rw [if_pos hE,if_pos hE,← hxg,vL h.rise hx,fF h.rise hx]
   have:=Qo x.2.1 x.2.2 (fun _=>true) (.slice none 0 0) W (hs x hx) (hl x hx) ((h.sets x hx).kept (hb.block _ (h.slt x hx))) (fun W' _ y _=>everyb_none true W')
   rwa [List.filter_eq_self.2 (fun _ _=>rfl)] at this
  ·
   rw [if_neg hE,if_neg hE]
   exact riseb10_nil _ W
 unfold qg at *
 clear h hs hl
 generalize fI (z8 T) g.data.toList=ls at *
 generalize (if zZ (z8 T) g.data.toList []=0 then qh T g.data.toList else none)=o at *
 generalize zZ (z8 T) g.data.toList []=r at *
 go_enter Tryz.func367,Tryz.ntmps367
 go_wp2_with fail
 with_reducible refine HFN.out.mono ?_
 rintro e w1 ⟨rfl,hb⟩
 have HB:=za hb
 have HR1:=za (HRS.out w1 hb)
 clear hb HFN HRS
 go_wp2_with fail
 with_reducible refine HR1.out.mono ?_
 rintro e w2 ⟨v,rfl,hr,hb⟩
 have HO:=za (zy hr HB.out.size)
 have HB2:=za (z7 HB.out hb)
 obtain ⟨A,c,rfl⟩:∃ A c,v=.slice A ls.length c:=by
  rcases hr.2 with ⟨rfl,hz⟩ | ⟨g,cap,cur,rfl,_⟩
  ·
   exact ⟨none,0,by rw [hz]⟩
  ·
   exact ⟨_,cap,rfl⟩
 clear hr hb HR1
 go_wp2
 go_ret2
 exact ⟨_,rfl,HO.out,HB2.out⟩

set_option maxRecDepth 100000 in
theorem all10_calls (B:Nat) (p:Option Nat) (T:zp) (w:World) (h:zO w B p T) (hf:T.length≤1000) :
  Calls Tryz.prog 374 #[.pointer (some ⟨B,0,none⟩)] w (zX (zc (z8 T)) w):=by
 have HRS:Hid (Calls Tryz.prog 331 #[.map p,.slice none 0 0] w (zX (zc (z8 T)) w)):=by
  rw [xM]
  cases p with
  | none =>
   have:=h.nil rfl
   subst this
   exact Xs _ w
  | some m =>
   have:=Zb m T (fun _=>true) (.slice none 0 0) w h.rise hf (h.map m rfl) (fun W' _ y _=>everys_none _ W')
   rwa [List.filter_eq_self.2 (fun _ _=>rfl)] at this
 have hc:=h.cell
 clear h
 generalize zc (z8 T)=ls at *
 go_enter Tryz.func374,Tryz.ntmps374
 go_wp2_with fail
 with_reducible refine HRS.out.mono ?_
 rintro e w2 ⟨v,rfl,hr,hb⟩
 have HN:Hid (zX ls w (.returned v) w2):=⟨v,rfl,hr,hb⟩
 obtain ⟨A,c,rfl⟩:∃ A c,v=.slice A ls.length c:=by
  rcases hr.2 with ⟨rfl,hz⟩ | ⟨g,cap,cur,rfl,_⟩
  ·
   exact ⟨none,0,by rw [hz]⟩
  ·
   exact ⟨_,cap,rfl⟩
 clear hr hb HRS hc
 generalize hn:ls.length=n at *
 clear hn
 go_wp2
 go_ret
 exact HN.out

theorem of10_rows (T:zp) (n:List UInt8):zc (T.filter fun x=>zz x.2.2 n)=xc (z8 T) n:=by
 unfold xc ofs10 z8 zc
 rw [List.filter_map,List.map_map]
 rfl
def YOf10 (B:Nat) (p:Option Nat) (n:ByteArray) (ls:List (List UInt8)) (w:World):Nat→Value→World→Prop
 | 3,v,_=>v=.map p
 | 4,v,_=>v=.string n
 | 5,v,W=>∃ C,v=.func (.func 335) #[] #[.pointer (some ⟨C,0,none⟩)]∧W.cell? ⟨C,0,none⟩=some (.string n)
 | 6,v,W=>∃ A C,v=.slice (some ⟨A,0,none⟩) 1 1∧W.cell? ⟨A,0,none⟩=some (.func (.func 335) #[] #[.pointer (some ⟨C,0,none⟩)])∧W.cell? ⟨C,0,none⟩=some (.string n)
 | 7,v,W=>zX ls w (.returned v) W
 | 8,v,W=>zX ls w (.returned v) W
 | _,v,_=>v=.pointer (some ⟨B,0,none⟩)
theorem zX.later {ls:List (List UInt8)} {w W W':World} {e:Ending} (h:zX ls w e W) (hb:Below W.heap.size W W'):zX ls w e W':=by
 obtain ⟨v,he,hr,hbw⟩:=h
 exact ⟨v,he,xE hr hb,z7 hbw hb⟩
theorem Yj {B:Nat} {p:Option Nat} {n:ByteArray} {ls:List (List UInt8)} {w W W':World} (hb:Below W.heap.size W W') (j:Nat) (u:Value) (h:YOf10 B p n ls w j u W):YOf10 B p n ls w j u W':=by
 have key:∀ (C:Nat) (v:Value),W.cell? ⟨C,0,none⟩=some v→W'.cell? ⟨C,0,none⟩=some v:=fun C v hC=>(hb.cell (p:=⟨C,0,none⟩) (World.block_lt_of_cell? W _ hC)).trans hC
 match j,h with
 | 0,h=>exact h
 | 1,h=>exact h
 | 2,h=>exact h
 | 3,h=>exact h
 | 4,h=>exact h
 | 5,h=>obtain ⟨C,e,hC⟩:=h; exact ⟨C,e,key C _ hC⟩
 | 6,h=>obtain ⟨A,C,e,hA,hC⟩:=h; exact ⟨A,C,e,key A _ hA,key C _ hC⟩
 | 7,h=>exact zX.later h hb
 | 8,h=>exact zX.later h hb
 | _+9,h=>exact h

set_option maxRecDepth 100000 in
theorem jX (B:Nat) (p:Option Nat) (T:zp) (n:ByteArray) (w:World) (h:zO w B p T) (hf:T.length≤1000) (hn:n.size≤9223372036854775807) :
  Calls Tryz.prog 328 #[.pointer (some ⟨B,0,none⟩),.string n] w (zX (xc (z8 T) n.data.toList) w):=by
 have HRS:Hid (∀ W A C,Below w.heap.size w W→W.cell? ⟨A,0,none⟩=some (.func (.func 335) #[] #[.pointer (some ⟨C,0,none⟩)])→W.cell? ⟨C,0,none⟩=some (.string n) →
   Calls Tryz.prog 331 #[.map p,.slice (some ⟨A,0,none⟩) 1 1] W (zX (xc (z8 T) n.data.toList) W)):=fun W A C hb hA hC=>by
  have lA:A<W.heap.size:=World.block_lt_of_cell? W _ hA
  have lC:C<W.heap.size:=World.block_lt_of_cell? W _ hC
  rw [← of10_rows]
  cases p with
  | none =>
   have:=h.nil rfl
   subst this
   exact Xs _ W
  | some m =>
   exact Zb m T (fun x=>zz x.2.2 n.data.toList) _ W h.rise hf ((h.later hb).map m rfl) (fun W' hb' y hy=>everys_one A C y.2.1 y.2.2 n W' (Nat.le_trans hn (by decide)) ((hb'.cell (p:=⟨A,0,none⟩) lA).trans hA) ((hb'.cell (p:=⟨C,0,none⟩) lC).trans hC) (((h.later hb).later hb').sets y hy))
 have HI:=za h
 have HFN:Hid (∀ W,Calls Tryz.prog 332 #[.string n] W fun e w'=>e=.returned (.func (.func 335) #[] #[.pointer (some ⟨W.heap.size,0,none⟩)])∧w'=W.alloc (.cells #[.string n] 9)):=fun W=>hasfn_calls n W
 clear h
 generalize xc (z8 T) n.data.toList=ls at *
 go_enter Tryz.func328,Tryz.ntmps328
 go_wp2_with fail
 refine yg (by kernel_rfl) (fun W=>Below w.heap.size w W) (YOf10 B p n ls w) ?F ?hF (by kernel_rfl) (by kernel_rfl) (zQ (Below.refl _ _)) ?step ?fin
 case hF =>
  intro x
  simp only [List.map_cons,List.map_nil,xU,Act.put,List.setIfInBounds_toArray,List.set_cons_zero,List.set_cons_succ,Nat.zero_add,Nat.reduceAdd]
  exact rfl
 case step =>
  refine ⟨?_,?_,?_,?_,?_,?_,?_,?_,?_,trivial⟩
  all_goals intro x W hW hdep K hK
  ·
   clear hdep
   go_simp
   exact hK _ _ rfl hW (fun _ _ h=>h)
  ·
   have h0:x 0=_:=hdep 0 rfl
   clear hdep
   simp only [h0] at hK
   go_simp
   exact hK _ _ rfl hW (fun _ _ h=>h)
  ·
   have h1:x 1=_:=hdep 1 rfl
   clear hdep
   simp only [h1] at hK
   go_simp
   exact hK _ _ rfl hW (fun _ _ h=>h)
  ·
   have h2:x 2=_:=hdep 2 rfl
   have c:=(HI.out.later hW).cell
   clear hdep
   simp only [h2] at hK
   go_simp
   exact hK _ _ rfl hW (fun _ _ h=>h)
  ·
   clear hdep
   go_simp
   exact hK _ _ rfl hW (fun _ _ h=>h)
  ·
   have h4:x 4=_:=hdep 4 rfl
   have hc:=HFN.out W
   clear hdep
   simp only [h4] at hK
   go_simp
   refine hc.mono ?_
   rintro e W' ⟨rfl,rfl⟩
   have hb:Below W.heap.size W (W.alloc (.cells #[.string n] 9)):=zb (Below.refl _ _) _
   exact hK _ _ ⟨W.heap.size,rfl,by rw [World.cell?_alloc_at _ _ _ _ rfl]; rfl⟩ (z7 hW hb) (Yj hb)
  ·
   obtain ⟨C,h5,hC⟩:=(show YOf10 B p n ls w 5 (x 5) W from hdep 5 rfl)
   simp only [h5] at hK
   have lC:C<W.heap.size:=World.block_lt_of_cell? W _ hC
   clear hdep
   go_simp
   have hb:Below W.heap.size W (W.alloc (.cells #[.func (.func 335) #[] #[.pointer (some ⟨C,0,none⟩)]] 375)):=zb (Below.refl _ _) _
   exact hK _ _ ⟨W.heap.size,C,rfl,by rw [World.cell?_alloc_at _ _ _ _ rfl]; rfl,(hb.cell (p:=⟨C,0,none⟩) lC).trans hC⟩ (z7 hW hb) (Yj hb)
  ·
   have h3:x 3=_:=hdep 3 rfl
   obtain ⟨A,C,h6,hA,hC⟩:=(show YOf10 B p n ls w 6 (x 6) W from hdep 6 rfl)
   have hc:=HRS.out W A C hW hA hC
   simp only [h6] at hK
   clear hdep
   simp only [h3] at hK
   go_simp
   refine hc.mono ?_
   rintro e W' ⟨v,rfl,hr,hb⟩
   exact hK _ _ ⟨v,rfl,zy hr hW.size,z7 hW hb⟩ (z7 hW hb) (Yj hb)
  ·
   have h7:zX ls w (.returned (x 7)) W:=hdep 7 rfl
   clear hdep
   go_simp
   exact hK _ _ h7 hW (fun _ _ h=>h)
 case fin =>
  intro x W hW hY
  have h8:zX ls w (.returned (x 8)) W:=hY 8 (by decide)
  obtain ⟨v,he,hr,hb⟩:=h8
  injection he with he
  have HN:Hid (zX ls w (.returned v) W):=⟨v,rfl,hr,hb⟩
  clear hY hW HI HFN HRS hr hb
  rw [he]
  go_wp2
  go_ret
  exact HN.out

def uI (f:zK→zK) (ls:List (List UInt8)) (T:zp):zp:=T.map fun x=>if x.1∈ls then (x.1,(x.2.1,f x.2.2)) else x
theorem Xh (f:zK→zK) (T:zp):uI f [] T=T:=by
 unfold uI
 simp
theorem Z8 {f:zK→zK} {ls:List (List UInt8)} {T:zp} {x:List UInt8×(Nat×zK)} (hx:x∈T) (hn:x.1∉ls):x∈uI f ls T:=List.mem_map.2 ⟨x,hx,if_neg hn⟩
theorem Xi {f:zK→zK} {ls:List (List UInt8)} {T:zp} {y:List UInt8×(Nat×zK)} (hy:y∈uI f ls T):∃ x∈T,x.2.1=y.2.1:=by
 obtain ⟨x,hx,rfl⟩:=List.mem_map.1 hy
 refine ⟨x,hx,?_⟩
 split <;> rfl
theorem stepT_snoc {f:zK→zK} {ls:List (List UInt8)} {T:zp} {k:List UInt8} (hk:k∉ls):Yp (fun v=>(v.1,f v.2)) (uI f ls T) k=uI f (ls++[k]) T:=by
 unfold uI Yp
 rw [List.map_map]
 refine List.map_congr_left fun x _=>?_
 by_cases e:x.1∈ls
 ·
  have hne:x.1≠k:=fun e'=>hk (e' ▸ e)
  simp [e,hne]
 ·
  by_cases e':x.1=k
  ·
   subst e'
   simp [e]
  ·
   simp [e,e']
theorem Xg (f:zK→zK) (ls:List (List UInt8)) (T:zp):z8 (uI f ls T)=(z8 T).map fun p=>if p.1∈ls then (p.1,f p.2) else p:=by
 unfold z8 uI
 rw [List.map_map,List.map_map]
 refine List.map_congr_left fun x _=>?_
 by_cases e:x.1∈ls <;> simp [e]
theorem Qg {S:zo} (hr:zG S) (n:List UInt8) {p:List UInt8×zK} (hp:p∈S):p.1∈xc S n↔zz p.2 n=true:=by
 rw [xl hr]
 unfold ue
 rw [qv hr hp]
theorem removed_all {T:zp} (hr:zG (z8 T)) (n:List UInt8):z8 (uI (fun l=>xK l n) (xc (z8 T) n) T)=qY (z8 T) n:=by
 rw [Xg]
 unfold qY
 refine List.map_congr_left fun p hp=>?_
 by_cases e:p.1∈xc (z8 T) n
 ·
  rw [if_pos e]
 ·
  rw [if_neg e,Va]
  cases h:zz p.2 n
  ·
   rfl
  ·
   exact absurd ((Qg hr n hp).2 h) e
theorem renamed_all {T:zp} (hr:zG (z8 T)) (o n:List UInt8):z8 (uI (fun l=>yR (xK l o) n ()) (xc (z8 T) o) T)=(z8 T).map fun p=>(p.1,Zc o n p.2):=by
 rw [Xg]
 refine List.map_congr_left fun p hp=>?_
 unfold Zc
 by_cases e:p.1∈xc (z8 T) o
 ·
  rw [if_pos e,if_pos ((Qg hr o hp).1 e)]
 ·
  rw [if_neg e]
  cases h:zz p.2 o
  ·
   rfl
  ·
   exact absurd ((Qg hr o hp).2 h) e
theorem ZN {l:List (List UInt8)} (h:ux l) {k:Nat} (hk:k<l.length):l[k]∉l.take k:=by
 intro hm
 obtain ⟨j,hj,e⟩:=List.getElem_of_mem hm
 rw [List.getElem_take] at e
 have hjk:j<k:=by simp at hj; omega
 have:=List.pairwise_iff_getElem.1 h j k (by omega) hk hjk
 rw [e,zA] at this
 cases this
theorem row10 {w:World} {base:Nat} {v:Value} {ls:List (List UInt8)} (h:w.ownsRow base 9 1 v ls.length (ls.map encStr)) :
  (v=.slice none 0 0∧ls=[])∨∃ g cap cur,v=.slice (some ⟨g,0,none⟩) ls.length cap∧base≤g∧w.heap[g]? = some (.cells cur 9 (0,0))∧∀ j (h:j<ls.length),cur[j]? = some (.string (yf ls[j])):=by
 rcases h.2 with ⟨rfl,hz⟩ | ⟨g,cap,cur,rfl,hb,hg,r1,r2,r3,r4⟩
 ·
  exact .inl ⟨rfl,List.eq_nil_of_length_eq_zero hz⟩
 ·
  refine .inr ⟨g,cap,cur,rfl,hb,hg,fun j hj=>?_⟩
  have h2:(List.take (ls.length * 1) cur.toList)[j]? = some (.string (yf ls[j])):=by rw [r4]; simp [hj,encStr,yf]
  rw [List.getElem?_take,if_pos (by omega)] at h2
  simpa using h2
theorem Z9 {w wr:World} {base:Nat} {v:Value} {ls:List (List UInt8)} {S:Nat→Prop} (h:w.ownsRow base 9 1 v ls.length (ls.map encStr)) (ht:zg S w wr) (hS:∀ i c T fr,w.heap[i]? = some (.cells c T fr)→T=9→¬ S i) {k:Nat} (hk:k<ls.length) :
  ∃ g cap,v=.slice (some ⟨g,0,none⟩) ls.length cap∧wr.cell? ⟨g,k,none⟩=some (.string (yf ls[k])):=by
 rcases row10 h with ⟨_,rfl⟩ | ⟨g,cap,cur,rfl,_,hg,hc⟩
 ·
  exact absurd hk (Nat.not_lt_zero _)
 ·
  refine ⟨g,cap,rfl,?_⟩
  have h1:wr.heap[g]? = some (.cells cur 9 (0,0)):=(ht.block g (Array.getElem?_eq_some_iff.1 hg).1 (hS g _ _ _ hg rfl)).trans hg
  have h2:=hc k hk
  simp [World.cell?,h1,h2]
theorem xL {w:World} {base:Nat} {v:Value} {ls:List (List UInt8)} (h:w.ownsRow base 9 1 v ls.length (ls.map encStr)):∃ A c,v=.slice A ls.length c:=by
 rcases row10 h with ⟨rfl,rfl⟩ | ⟨g,cap,cur,rfl,_⟩
 ·
  exact ⟨none,0,rfl⟩
 ·
  exact ⟨_,cap,rfl⟩
theorem zO.step {w w':World} {B:Nat} {p:Option Nat} {T:zp} {f:zK→zK} {ls:List (List UInt8)} (h:zO w B p (uI f ls T)) {x:List UInt8×(Nat×zK)} (hx:x∈T) (hn:x.1∉ls) (hs:zV w' x.2.1 (f x.2.2)) (ht:zg (fun i=>i=x.2.1) w w'):zO w' B p (uI f (ls++[x.1]) T):=by
 have:=h.turned (Z8 hx hn) f hs ht
 rwa [stepT_snoc hn] at this

set_option maxRecDepth 100000 in
theorem VH (B:Nat) (p:Option Nat) (T:zp) (n:ByteArray) (w:World) (h:zO w B p T) (hf:T.length≤1000) (hnm:∀ x∈T,x.1.length≤1000) (hn:n.size≤9223372036854775807) :
  Calls Tryz.prog 320 #[.pointer (some ⟨B,0,none⟩),.string n] w fun e w'=>e=.returned (.int .i64 ((xc (z8 T) n.data.toList).length:Nat))∧zR w B p T (qY (z8 T) n.data.toList) w':=by
 have HOF:=za (jX B p T n w h hf hn)
 have hrs:zG (z8 T):=xq h.rise (xM T)
 have HRM:=za (removed_all hrs n.data.toList)
 have HNZ:Hid (n.size≤maxLen):=Nat.le_trans hn (by decide)
 have HI:=za h
 have HTL0:Hid (∀ g∈xc (z8 T) n.data.toList,∃ x∈T,x.1=g):=fun g hg=>by
  have:=jW hg
  rw [xM] at this
  obtain ⟨x,hx,e⟩:=List.mem_map.1 this
  exact ⟨x,hx,e⟩
 have HRL:Hid (ux (xc (z8 T) n.data.toList)):=vc hrs _
 obtain ⟨l,hl⟩:∃ l,xc (z8 T) n.data.toList=l:=⟨_,rfl⟩
 rw [hl] at HOF HRM HTL0 HRL ⊢
 have HL:=za hl
 have HTL:Hid (∀ k (h:k<l.length),∃ x∈T,x.1=l[k]):=fun k hk=>HTL0.out _ (List.getElem_mem hk)
 have HLN:Hid (∀ g∈l,g.length≤maxLen):=fun g hg=>by
  obtain ⟨x,hx,e⟩:=HTL0.out g hg
  rw [← e]
  exact Nat.le_trans (hnm x hx) (by decide)
 have HB1:=za (Below.refl w.heap.size w)
 clear h hrs hl HTL0 hn hnm
 go_enter Tryz.func320,Tryz.ntmps320
 go_wp2_with fail
 with_reducible refine HOF.out.mono ?_
 rintro e w1 ⟨v,rfl,hr,hb⟩
 have HRO:=za hr
 have HB2:=za (z7 HB1.out hb)
 have HI2:=za (HI.out.later (z7 HB1.out hb))
 obtain ⟨A,c,rfl⟩:=xL hr
 have hcl:l.length≤T.length:=by rw [← HL.out]; exact Nat.le_trans (ZV _ _) (Nat.le_of_eq (uZ T))
 obtain ⟨len,hlen⟩:∃ len,len=l.length:=⟨_,rfl⟩
 rw [← hlen] at hcl ⊢
 have HLEN:=za hlen
 have hlz:len≤1000:=by omega
 have HCL:=za hcl
 clear hr hb hlen hcl
 clear HOF
 go_wp2
 go_loopg [13] len (fun gg s13 wr=>∃ k:Nat,k≤len∧len - k≤gg∧s13=.int .i64 k∧Hid (zO wr B p (uI (fun l=>xK l n.data.toList) (l.take k) T))∧Hid (zg (fun i=>∃ x∈T,x.2.1=i) w1 wr))
 case atStart=>exact ⟨0,Nat.zero_le _,by omega,rfl,(by show zO _ _ _ _; rw [List.take_zero,Xh]; exact HI2.out),zg.refl _ _⟩
 case round =>
  obtain ⟨k,hk,hg,rfl,HG,HT⟩:=hrel
  by_cases hlt:k<len
  ·
   have hltz:(k:Int)<(len:Int):=by omega
   have hkl:k<l.length:=HLEN.out ▸ hlt
   obtain ⟨x,hx,hxn⟩:=HTL.out k hkl
   have hnot:l[k]∉l.take k:=ZN HRL.out hkl
   have hxk:x∈uI (fun l=>xK l n.data.toList) (l.take k) T:=Z8 hx (by rw [hxn]; exact hnot)
   obtain ⟨g,cap,e2,x0⟩:=Z9 HRO.out HT.out (fun i c0 T0 fr hi _ hS=>by obtain ⟨y,hy,e⟩:=hS; exact zP (HI2.out.sets y hy) hi e) hkl
   injection e2 with e2 e2n e2c
   subst e2
   clear e2n e2c
   have c0:=HG.out.cell
   have htk:l.take (k+1)=l.take k++[x.1]:=by rw [List.take_succ_eq_append_getElem hkl,hxn]
   have l1:=XP HG.out (yf l[k]) (by rw [xO]; exact HLN.out _ (List.getElem_mem hkl))
   rw [zT,← hxn,vL HG.out.rise hxk] at l1
   rw [← hxn] at x0
   obtain ⟨w5,hrun,hs5,ht5⟩:=drop10 (HG.out.sets x hxk) n HNZ.out 0
   have ht5':zg (fun i=>i=x.2.1) wr w5:=(zg.refl _ wr).grown ht5.grown (fun k hk _=>by cases hk; rfl)
   have HG2:Hid (zO w5 B p (uI (fun l=>xK l n.data.toList) (l.take (k+1)) T)):=by
    show zO _ _ _ _
    rw [htk]
    exact HG.out.step hx (by rw [hxn]; exact hnot) hs5 ht5'
   have HT2:Hid (zg (fun i=>∃ x∈T,x.2.1=i) w1 w5):=HT.out.next ht5' (fun i _ e=>⟨x,hx,e.symm⟩)
   clear hs5 ht5 ht5' htk hxk hx hnot HG HT hxn hkl
   generalize yf x.1=sx at *
   generalize x.2.1=bx at *
   go_wp2
   go_roundg (len - (k+1))
   case measure=>omega
   case rel=>exact ⟨k+1,by omega,by omega,by go_num,HG2,HT2⟩
  ·
   have hltz:¬ (k:Int)<(len:Int):=by omega
   obtain rfl:k=len:=by omega
   have hgd:=HG.out
   rw [List.take_of_length_le (by have:=HLEN.out; omega)] at hgd
   have HF:Hid (zR w B p T (qY (z8 T) n.data.toList) wr):=⟨p,_,hgd,HRM.out,(fun _ e=>.inl e),fun y hy=>.inl (by obtain ⟨x,hx,e⟩:=Xi hy; exact ⟨x,hx,e⟩),(zg.of_below HB2.out _).next HT.out (fun i _ e=>.inr (.inr e))⟩
   clear hgd HG HT
   go_wp2
   go_ret
   exact ⟨by rw [← HLEN.out]; rfl,HF.out⟩

set_option maxRecDepth 100000 in
theorem VG (B:Nat) (p:Option Nat) (T:zp) (o n:ByteArray) (w:World) (h:zO w B p T) (hf:T.length≤1000) (hnm:∀ x∈T,x.1.length≤1000) (hlt:∀ x∈T,x.2.2.length≤1000) (ho:o.size≤9223372036854775807) (hn:n.size≤9223372036854775807) :
  Calls Tryz.prog 363 #[.pointer (some ⟨B,0,none⟩),.string o,.string n] w fun e w'=>e=.returned (.int .i64 (Zd (z8 T) o.data.toList n.data.toList))∧zR w B p T (ZQ (z8 T) o.data.toList n.data.toList) w':=by
 have HOFO:Hid (∀ W,Below w.heap.size w W→Calls Tryz.prog 328 #[.pointer (some ⟨B,0,none⟩),.string o] W (zX (xc (z8 T) o.data.toList) W)):=fun W hb=>jX B p T o W (h.later hb) hf ho
 have HOFN:Hid (∀ W,Below w.heap.size w W→Calls Tryz.prog 328 #[.pointer (some ⟨B,0,none⟩),.string n] W (zX (xc (z8 T) n.data.toList) W)):=fun W hb=>jX B p T n W (h.later hb) hf hn
 have HB0:Hid (Below w.heap.size w (w.alloc (.cells #[.string n] 9))):=zb (Below.refl _ _) _
 have HN:=za (uw w.heap.size n _ hn (show (w.alloc (.cells #[.string n] 9)).cell? ⟨w.heap.size,0,none⟩=some (.string n) by rw [World.cell?_alloc_at _ _ _ _ rfl]; rfl))
 have hrs:zG (z8 T):=xq h.rise (xM T)
 have HRM:=za (renamed_all hrs o.data.toList n.data.toList)
 have HNZ:Hid (o.size≤maxLen):=Nat.le_trans ho (by decide)
 have HI:=za h
 have HLT:=za hlt
 have HTL0:Hid (∀ g∈xc (z8 T) o.data.toList,∃ x∈T,x.1=g):=fun g hg=>by
  have:=jW hg
  rw [xM] at this
  obtain ⟨x,hx,e⟩:=List.mem_map.1 this
  exact ⟨x,hx,e⟩
 have HRL:Hid (ux (xc (z8 T) o.data.toList)):=vc hrs _
 obtain ⟨l,hl⟩:∃ l,xc (z8 T) o.data.toList=l:=⟨_,rfl⟩
 rw [hl] at HOFO HRM HTL0 HRL
 have HL:=za hl
 have HTL:Hid (∀ k (h:k<l.length),∃ x∈T,x.1=l[k]):=fun k hk=>HTL0.out _ (List.getElem_mem hk)
 have HLN:Hid (∀ g∈l,g.length≤maxLen):=fun g hg=>by
  obtain ⟨x,hx,e⟩:=HTL0.out g hg
  rw [← e]
  exact Nat.le_trans (hnm x hx) (by decide)
 unfold ZQ Zd
 clear h hrs hl HTL0 ho hn hnm hlt
 cases hnn:zh n.data.toList with
 | false =>
  rw [hnn] at HN
  show Calls _ _ _ _ fun e w'=>e=.returned (.int .i64 10)∧zR w B p T (z8 T) w'
  clear hnn
  go_enter Tryz.func363,Tryz.ntmps363
  go_wp2_with fail
  with_reducible refine HN.out.mono ?_
  rintro e w1 ⟨rfl,hb⟩
  have HB:=za (z7 HB0.out hb)
  clear hb HN
  go_wp2
  go_ret
  exact ⟨rfl,zR.still HI.out HB.out⟩
 | true =>
  have HSZ:=za (qc hnn)
  rw [hnn] at HN
  clear hnn
  by_cases e:n.data.toList=o.data.toList
  ·
   have hon:n=o:=by rw [← uV n,e,uV]
   have e0:(if true=true then if n.data.toList≠o.data.toList∧xc (z8 T) n.data.toList≠[] then (9:Int) else 0 else 10)=0:=by simp [e]
   rw [e0,if_pos rfl]
   clear e e0 HOFN
   subst hon
   have n1:(n.toList != n.toList)=false:=by simp
   have n2:(n.toList == n.toList)=true:=by simp
   go_enter Tryz.func363,Tryz.ntmps363
   go_wp2_with fail
   with_reducible refine HN.out.mono ?_
   rintro e w9 ⟨rfl,hb⟩
   have HB1:=za (z7 HB0.out hb)
   have HOF:=za (HOFO.out _ HB1.out)
   clear hb HN HOFO
   go_wp2_with fail
   with_reducible refine HOF.out.mono ?_
   rintro e w1 ⟨v,rfl,hr,hb⟩
   have HRO:=za hr
   have HB2:=za (z7 HB1.out hb)
   have HI2:=za (HI.out.later (z7 HB1.out hb))
   obtain ⟨A,c,rfl⟩:=xL hr
   have hcl:l.length≤T.length:=by rw [← HL.out]; exact Nat.le_trans (ZV _ _) (Nat.le_of_eq (uZ T))
   obtain ⟨len,hlen⟩:∃ len,len=l.length:=⟨_,rfl⟩
   rw [← hlen] at hcl ⊢
   have HLEN:=za hlen
   have hlz:len≤1000:=by omega
   have HCL:=za hcl
   clear hr hb hlen hcl
   clear HOF
   go_wp2
   go_loopg [27] len (fun gg s27 wr=>∃ k:Nat,k≤len∧len - k≤gg∧s27=.int .i64 k∧Hid (zO wr B p (uI (fun l=>yR (xK l n.data.toList) n.data.toList ()) (l.take k) T))∧Hid (zg (fun i=>∃ x∈T,x.2.1=i) w1 wr))
   case atStart=>exact ⟨0,Nat.zero_le _,by omega,rfl,(by show zO _ _ _ _; rw [List.take_zero,Xh]; exact HI2.out),zg.refl _ _⟩
   case round =>
    obtain ⟨k,hk,hg,rfl,HG,HT⟩:=hrel
    by_cases hlt:k<len
    ·
     have hltz:(k:Int)<(len:Int):=by omega
     have hkl:k<l.length:=HLEN.out ▸ hlt
     obtain ⟨x,hx,hxn⟩:=HTL.out k hkl
     have hnot:l[k]∉l.take k:=ZN HRL.out hkl
     have hxk:x∈uI (fun l=>yR (xK l n.data.toList) n.data.toList ()) (l.take k) T:=Z8 hx (by rw [hxn]; exact hnot)
     obtain ⟨g,cap,e2,x0⟩:=Z9 HRO.out HT.out (fun i c0 T0 fr hi _ hS=>by obtain ⟨y,hy,e⟩:=hS; exact zP (HI2.out.sets y hy) hi e) hkl
     injection e2 with e2 e2n e2c
     subst e2
     clear e2n e2c
     have c0:=HG.out.cell
     have htk:l.take (k+1)=l.take k++[x.1]:=by rw [List.take_succ_eq_append_getElem hkl,hxn]
     have l1:=XP HG.out (yf l[k]) (by rw [xO]; exact HLN.out _ (List.getElem_mem hkl))
     rw [zT,← hxn,vL HG.out.rise hxk] at l1
     rw [← hxn] at x0
     obtain ⟨w5,hrun,hs5,ht5⟩:=drop10 (HG.out.sets x hxk) n HNZ.out 0
     have ht5':zg (fun i=>i=x.2.1) wr w5:=(zg.refl _ wr).grown ht5.grown (fun k hk _=>by cases hk; rfl)
     have hg5:=HG.out.turned hxk (fun l=>xK l n.data.toList) hs5 ht5'
     have hx5:(x.1,(x.2.1,xK x.2.2 n.data.toList))∈Yp (fun v:Nat×zK=>(v.1,xK v.2 n.data.toList)) (uI (fun l=>yR (xK l n.data.toList) n.data.toList ()) (l.take k) T) x.1:=List.mem_map.2 ⟨x,hxk,if_pos rfl⟩
     have l5:=XP hg5 (yf x.1) (by rw [xO,hxn]; exact HLN.out _ (List.getElem_mem hkl))
     rw [zT,vL hg5.rise hx5] at l5
     have c5:=hg5.cell
     have HAD:Hid (Calls Tryz.prog 225 #[.map (some x.2.1),.string n] w5 fun e w'=>e=.returned (.tuple #[])∧zO w' B p (uI (fun l=>yR (xK l n.data.toList) n.data.toList ()) (l.take (k+1)) T)∧zg (fun i=>∃ x∈T,x.2.1=i) w1 w') :=
      (qC x.2.1 (xK x.2.2 n.data.toList) n w5 hs5 (Nat.le_trans (fR _ _) (HLT.out x hx)) HSZ.out).mono fun e w' ⟨he,h2,h3⟩=>by
       refine ⟨he,?_,HT.out.next (ht5'.next h3 (fun i _ e=>e)) (fun i _ e=>⟨x,hx,e.symm⟩)⟩
       rw [htk]
       exact HG.out.step hx (by rw [hxn]; exact hnot) h2 (ht5'.next h3 (fun i _ e=>e))
     clear hs5 ht5 ht5' htk hxk hx hnot HG HT hxn hkl hg5 hx5
     generalize yf x.1=sx at *
     generalize x.2.1=bx at *
     go_wp2_with (go_at_call 225; (with_reducible refine HAD.out.mono ?_); rintro e w6 ⟨rfl,hg6,ht6⟩; have HG2:=za hg6; have HT2:=za ht6; clear hg6 ht6)
     go_roundg (len - (k+1))
     case measure=>omega
     case rel=>exact ⟨k+1,by omega,by omega,by go_num,HG2,HT2⟩
    ·
     have hltz:¬ (k:Int)<(len:Int):=by omega
     obtain rfl:k=len:=by omega
     have hgd:=HG.out
     rw [List.take_of_length_le (by have:=HLEN.out; omega)] at hgd
     have HF:Hid (zR w B p T ((z8 T).map fun p=>(p.1,Zc n.data.toList n.data.toList p.2)) wr):=⟨p,_,hgd,HRM.out,(fun _ e=>.inl e),fun y hy=>.inl (by obtain ⟨x,hx,e⟩:=Xi hy; exact ⟨x,hx,e⟩),(zg.of_below HB2.out _).next HT.out (fun i _ e=>.inr (.inr e))⟩
     clear hgd HG HT
     go_wp2
     go_ret
     exact ⟨rfl,HF.out⟩
  ·
   have n2:(n.toList == o.toList)=false:=by rw [Lib.toList_data,Lib.toList_data]; simpa using e
   have n1:¬ n.toList=o.toList:=by simpa using n2
   by_cases h9:xc (z8 T) n.data.toList=[]
   ·
    have e0:(if true=true then if n.data.toList≠o.data.toList∧xc (z8 T) n.data.toList≠[] then (9:Int) else 0 else 10)=0:=by simp [h9]
    rw [e0,if_pos rfl]
    rw [h9] at HOFN
    clear e e0 h9
    go_enter Tryz.func363,Tryz.ntmps363
    go_wp2_with fail
    with_reducible refine HN.out.mono ?_
    rintro e w7 ⟨rfl,hb⟩
    have HB7:=za (z7 HB0.out hb)
    have HON:=za (HOFN.out _ HB7.out)
    clear hb HN HOFN
    go_wp2_with fail
    with_reducible refine HON.out.mono ?_
    rintro e w8 ⟨v8,rfl,hr8,hb⟩
    obtain ⟨A8,c8,rfl⟩:=xL hr8
    have HB1:=za (z7 HB7.out hb)
    have HOF:=za (HOFO.out _ HB1.out)
    clear hb hr8 HON HOFO
    go_wp2_with fail
    with_reducible refine HOF.out.mono ?_
    rintro e w1 ⟨v,rfl,hr,hb⟩
    have HRO:=za hr
    have HB2:=za (z7 HB1.out hb)
    have HI2:=za (HI.out.later (z7 HB1.out hb))
    obtain ⟨A,c,rfl⟩:=xL hr
    have hcl:l.length≤T.length:=by rw [← HL.out]; exact Nat.le_trans (ZV _ _) (Nat.le_of_eq (uZ T))
    obtain ⟨len,hlen⟩:∃ len,len=l.length:=⟨_,rfl⟩
    rw [← hlen] at hcl ⊢
    have HLEN:=za hlen
    have hlz:len≤1000:=by omega
    have HCL:=za hcl
    clear hr hb hlen hcl
    clear HOF
    go_wp2
    go_loopg [27] len (fun gg s27 wr=>∃ k:Nat,k≤len∧len - k≤gg∧s27=.int .i64 k∧Hid (zO wr B p (uI (fun l=>yR (xK l o.data.toList) n.data.toList ()) (l.take k) T))∧Hid (zg (fun i=>∃ x∈T,x.2.1=i) w1 wr))
    case atStart=>exact ⟨0,Nat.zero_le _,by omega,rfl,(by show zO _ _ _ _; rw [List.take_zero,Xh]; exact HI2.out),zg.refl _ _⟩
    case round =>
     obtain ⟨k,hk,hg,rfl,HG,HT⟩:=hrel
     by_cases hlt:k<len
     ·
      have hltz:(k:Int)<(len:Int):=by omega
      have hkl:k<l.length:=HLEN.out ▸ hlt
      obtain ⟨x,hx,hxn⟩:=HTL.out k hkl
      have hnot:l[k]∉l.take k:=ZN HRL.out hkl
      have hxk:x∈uI (fun l=>yR (xK l o.data.toList) n.data.toList ()) (l.take k) T:=Z8 hx (by rw [hxn]; exact hnot)
      obtain ⟨g,cap,e2,x0⟩:=Z9 HRO.out HT.out (fun i c0 T0 fr hi _ hS=>by obtain ⟨y,hy,e⟩:=hS; exact zP (HI2.out.sets y hy) hi e) hkl
      injection e2 with e2 e2n e2c
      subst e2
      clear e2n e2c
      have c0:=HG.out.cell
      have htk:l.take (k+1)=l.take k++[x.1]:=by rw [List.take_succ_eq_append_getElem hkl,hxn]
      have l1:=XP HG.out (yf l[k]) (by rw [xO]; exact HLN.out _ (List.getElem_mem hkl))
      rw [zT,← hxn,vL HG.out.rise hxk] at l1
      rw [← hxn] at x0
      obtain ⟨w5,hrun,hs5,ht5⟩:=drop10 (HG.out.sets x hxk) o HNZ.out 0
      have ht5':zg (fun i=>i=x.2.1) wr w5:=(zg.refl _ wr).grown ht5.grown (fun k hk _=>by cases hk; rfl)
      have hg5:=HG.out.turned hxk (fun l=>xK l o.data.toList) hs5 ht5'
      have hx5:(x.1,(x.2.1,xK x.2.2 o.data.toList))∈Yp (fun v:Nat×zK=>(v.1,xK v.2 o.data.toList)) (uI (fun l=>yR (xK l o.data.toList) n.data.toList ()) (l.take k) T) x.1:=List.mem_map.2 ⟨x,hxk,if_pos rfl⟩
      have l5:=XP hg5 (yf x.1) (by rw [xO,hxn]; exact HLN.out _ (List.getElem_mem hkl))
      rw [zT,vL hg5.rise hx5] at l5
      have c5:=hg5.cell
      have HAD:Hid (Calls Tryz.prog 225 #[.map (some x.2.1),.string n] w5 fun e w'=>e=.returned (.tuple #[])∧zO w' B p (uI (fun l=>yR (xK l o.data.toList) n.data.toList ()) (l.take (k+1)) T)∧zg (fun i=>∃ x∈T,x.2.1=i) w1 w') :=
       (qC x.2.1 (xK x.2.2 o.data.toList) n w5 hs5 (Nat.le_trans (fR _ _) (HLT.out x hx)) HSZ.out).mono fun e w' ⟨he,h2,h3⟩=>by
        refine ⟨he,?_,HT.out.next (ht5'.next h3 (fun i _ e=>e)) (fun i _ e=>⟨x,hx,e.symm⟩)⟩
        rw [htk]
        exact HG.out.step hx (by rw [hxn]; exact hnot) h2 (ht5'.next h3 (fun i _ e=>e))
      clear hs5 ht5 ht5' htk hxk hx hnot HG HT hxn hkl hg5 hx5
      generalize yf x.1=sx at *
      generalize x.2.1=bx at *
      go_wp2_with (go_at_call 225; (with_reducible refine HAD.out.mono ?_); rintro e w6 ⟨rfl,hg6,ht6⟩; have HG2:=za hg6; have HT2:=za ht6; clear hg6 ht6)
      go_roundg (len - (k+1))
      case measure=>omega
      case rel=>exact ⟨k+1,by omega,by omega,by go_num,HG2,HT2⟩
     ·
      have hltz:¬ (k:Int)<(len:Int):=by omega
      obtain rfl:k=len:=by omega
      have hgd:=HG.out
      rw [List.take_of_length_le (by have:=HLEN.out; omega)] at hgd
      have HF:Hid (zR w B p T ((z8 T).map fun p=>(p.1,Zc o.data.toList n.data.toList p.2)) wr):=⟨p,_,hgd,HRM.out,(fun _ e=>.inl e),fun y hy=>.inl (by obtain ⟨x,hx,e⟩:=Xi hy; exact ⟨x,hx,e⟩),(zg.of_below HB2.out _).next HT.out (fun i _ e=>.inr (.inr e))⟩
      clear hgd HG HT
      go_wp2
      go_ret
      exact ⟨rfl,HF.out⟩
   ·
    have e9:(if true=true then if n.data.toList≠o.data.toList∧xc (z8 T) n.data.toList≠[] then (9:Int) else 0 else 10)=9:=by simp [h9,e]
    rw [e9,if_neg (by decide)]
    have hpos:0<(xc (z8 T) n.data.toList).length:=List.length_pos_iff.2 h9
    clear e e9 h9
    generalize xc (z8 T) n.data.toList=ln at *
    go_enter Tryz.func363,Tryz.ntmps363
    go_wp2_with fail
    with_reducible refine HN.out.mono ?_
    rintro e w7 ⟨rfl,hb⟩
    have HB7:=za (z7 HB0.out hb)
    have HON:=za (HOFN.out _ HB7.out)
    clear hb HN HOFN
    go_wp2_with fail
    with_reducible refine HON.out.mono ?_
    rintro e w8 ⟨v8,rfl,hr8,hb⟩
    obtain ⟨A8,c8,rfl⟩:=xL hr8
    have HB1:=za (z7 HB7.out hb)
    clear hb hr8 HON HOFO
    generalize ln.length=q at *
    have hposz:(q:Int) > 0:=by omega
    have hposd:decide ((q:Int) > 0)=true:=decide_eq_true hposz
    go_wp2
    go_ret
    exact ⟨rfl,zR.still HI.out HB1.out⟩

theorem JR {V:Type}:∀ {a b:yT V},zG a→zG b→(∀ x,x∈a↔x∈b)→a=b
 | [],[],_,_,_=>rfl
 | [],y::s,_,_,h=>absurd ((h y).2 (by simp)) (by simp)
 | x::r,[],_,_,h=>absurd ((h x).1 (by simp)) (by simp)
 | x::r,y::s,ha,hb,h=>by
  obtain ⟨a1,a2⟩:=List.pairwise_cons.1 ha
  obtain ⟨b1,b2⟩:=List.pairwise_cons.1 hb
  have e:x=y:=by
   rcases List.mem_cons.1 ((h x).1 (by simp)) with e | hx
   ·
    exact e
   ·
    rcases List.mem_cons.1 ((h y).2 (by simp)) with e | hy
    ·
     exact e.symm
    ·
     exact absurd (b1 _ hx) (by rw [vF (a1 _ hy)]; exact Bool.noConfusion)
  subst e
  rw [JR a2 b2 fun z=>?_]
  constructor
  ·
   intro hz
   rcases List.mem_cons.1 ((h z).1 (by simp [hz])) with e | h'
   ·
    subst e; exact absurd (a1 _ hz) (by rw [zA]; exact Bool.noConfusion)
   ·
    exact h'
  ·
   intro hz
   rcases List.mem_cons.1 ((h z).2 (by simp [hz])) with e | h'
   ·
    subst e; exact absurd (b1 _ hz) (by rw [zA]; exact Bool.noConfusion)
   ·
    exact h'
def Vt (S' S:zo) (left:Lit→Bool):Prop:=zG S'∧∀ q,q∈S'↔q∈S∧left (.string q.1)=false
theorem Vt.start (T:zp):Vt [] (z8 T) (Maps.has (uA U0 T)):=⟨List.Pairwise.nil,fun q=>by
 constructor
 ·
  intro h; cases h
 ·
  rintro ⟨hq,h⟩
  rw [Zv,← vD,xV.2 ⟨q,hq,rfl⟩] at h
  cases h⟩
theorem Vt.step {S' S:zo} {left:Lit→Bool} (hr:zG S) (h:Vt S' S left) {k:List UInt8} {l:zK} (hk:(k,l)∈S):Vt (yR S' k l) S (fun z=>left z && !z.sameKey (.string k)):=by
 refine ⟨xd h.1 k l,fun q=>?_⟩
 rw [yJ,h.2]
 by_cases e:q.1=k
 ·
  constructor
  ·
   rintro (rfl | ⟨_,h'⟩)
   ·
    exact ⟨hk,by simp [Lit.sameKey]⟩
   ·
    exact absurd e h'
  ·
   rintro ⟨hq,_⟩
   exact .inl (Xu hr hq hk e)
 ·
  constructor
  ·
   rintro (rfl | ⟨⟨hq,hl⟩,_⟩)
   ·
    exact absurd rfl e
   ·
    exact ⟨hq,by simp [hl]⟩
  ·
   rintro ⟨hq,hl⟩
   exact .inr ⟨⟨hq,by simpa [Lit.sameKey,e] using hl⟩,e⟩
theorem Vt.end_ {S' S:zo} {left:Lit→Bool} (hr:zG S) (h:Vt S' S left) (hl:∀ kl,left kl=false):S'=S :=
 JR h.1 hr fun q=>by rw [h.2,hl]; simp
theorem VI {w w':World} {P:Program} {k:TypeId} {R:Value→Option (DataW Unit×List MemPlace)} {b r n:Nat} {D:DataW Unit} {left:Lit→Bool} {cnt:Nat} {S:Nat→Prop} (h:w.ranges P k R b r n D left cnt) (ht:zg S w w') (hb:¬ S b) (hr:¬ S r):w'.ranges P k R b r n D left cnt:=by
 have h1:=h.owns.lt
 have h2:=h.lt
 obtain ⟨es,clock,since,seen,c0,hb',F,hs,hD,hr',rest⟩:=h
 exact ⟨es,clock,since,seen,c0,(ht.block b h1 hb).trans hb',F,hs,hD,(ht.block r h2 hr).trans hr',rest⟩
theorem Fu {w:World} {P:Program} {k:TypeId} {R:Value→Option (DataW Unit×List MemPlace)} {b r n:Nat} {D:DataW Unit} {left:Lit→Bool} {cnt:Nat} (h:w.ranges P k R b r n D left cnt) :
  (∀ c T fr,w.heap[r]? ≠ some (.cells c T fr))∧∀ es cl,w.heap[r]? ≠ some (.map es cl):=by
 obtain ⟨es,clock,since,seen,c0,_,_,_,_,hr',_⟩:=h
 refine ⟨fun c T fr e=>?_,fun es cl e=>?_⟩
 ·
  rw [hr'] at e
  injection e with e
  cases e
 ·
  rw [hr'] at e
  injection e with e
  cases e
theorem ZU {w:World} {R:Value→Option (DataW Unit×List MemPlace)} {b n:Nat} {D:DataW Unit} (h:w.ownsMap Tryz.prog 9 R b n D):∃ es cl,w.heap[b]? = some (.map es cl):=by
 obtain ⟨es,clock,h1,_⟩:=h
 exact ⟨es,clock,h1⟩
theorem Jl (b:Nat) (L:zK) (w:World) (h:zV w b L):Calls Tryz.prog 371 #[.map (some b)] w fun e w'=>e=.returned (.map (some w.heap.size))∧zV w' w.heap.size L∧Below w.heap.size w w' :=
 (AnyW.maps_Clone_owns Tryz.clone10 9 _ b _ _ w h).mono fun _ _ ⟨he,h1,_,hb⟩=>⟨he,h1,hb⟩

def Js (w W:World) (B:Nat) (p:Option Nat) (T:zp):Prop:=zO W B p T∧w.heap.size≤B∧(∀ b,p=some b→w.heap.size≤b)∧∀ x∈T,w.heap.size≤x.2.1
def Vv (S:zo) (w:World) (e:Ending) (w':World):Prop:=∃ b p T,e=.returned (.pointer (some ⟨b,0,none⟩))∧Js w w' b p T∧z8 T=S∧Below w.heap.size w w'
theorem ql.new {w W W':World} {B b:Nat} {p:Option Nat} {T:zp} {k:List UInt8} {l:zK} (h:ql W B p (yR T k (b,l)) W') (hn:Js w W B p T) (hw:w.heap.size≤W.heap.size) (hb:w.heap.size≤b):∃ p',Js w W' B p' (yR T k (b,l))∧zg (fun i=>i=B∨p=some i) W W':=by
 obtain ⟨p',hd,hp,ht⟩:=h
 obtain ⟨_,h1,h2,h3⟩:=hn
 refine ⟨p',⟨hd,h1,fun c e=>?_,fun x hx=>?_⟩,ht⟩
 ·
  rcases hp c e with e | e
  ·
   exact h2 c e
  ·
   exact Nat.le_trans hw e
 ·
  rcases yJ.1 hx with rfl | ⟨hx,_⟩
  ·
   exact hb
  ·
   exact h3 x hx

set_option maxRecDepth 100000 in
theorem copy10_some (B m:Nat) (T:zp) (w:World) (h:zO w B (some m) T) (hf:T.length≤1000) (hnm:∀ x∈T,x.1.length≤1000) :
  Calls Tryz.prog 359 #[.pointer (some ⟨B,0,none⟩)] w (Vv (z8 T) w):=by
 have HNEW:=za (fH w)
 have hb0:Below w.heap.size w (w.alloc (.cells #[.map none] 278)):=zb (Below.refl _ _) _
 have h1:=h.later hb0
 have hc:=h1.cell
 have hown:=h1.map m rfl
 have hml:=h.mlt m rfl
 have HI:=za h
 have HNM:=za hnm
 have HW0:Hid (Js w (w.alloc (.cells #[.map none] 278)) w.heap.size none []):=⟨V2 w,Nat.le_refl _,(fun _ h=>nomatch h),(fun _ h=>nomatch h)⟩
 have HB0:=za hb0
 have hsz:Maps.size (uA U0 T)=T.length:=vy U0 T
 have hs1:(w.alloc (.cells #[.map none] 278)).heap.size=w.heap.size+1:=by simp
 have hrs:zG (z8 T):=xq h.rise (xM T)
 have HRS:=za hrs
 obtain ⟨C,hC⟩:∃ C,C=w.heap.size:=⟨_,rfl⟩
 rw [← hC] at HNEW HW0 hs1
 obtain ⟨len,hlen⟩:∃ len,len=T.length:=⟨_,rfl⟩
 rw [← hlen] at hf hsz
 have HLN:=za hlen
 have HCC:=za hC
 clear h h1 hb0 hnm hrs hlen hC
 go_enter Tryz.func359,Tryz.ntmps359
 go_wp2_with fail
 with_reducible refine HNEW.out.mono ?_
 rintro e w1 ⟨rfl,rfl⟩
 generalize w.alloc (.cells #[.map none] 278)=w1 at *
 go_wp2_with (first
  | (at_range; refine wpList_range_own _ rfl _ 276 rfl 9 274 xF Tryz.underlying276 _ m _ _ rfl hown ?_; intro w0 hrg0 hg0 hs0)
  | go_in)
 go_frame
 rw [hsz,← HLN.out] at hrg0
 rw [hs1] at hrg0 hs0 ⊢
 have hb01:Below w1.heap.size w1 w0:=(Below.refl _ _).grown hg0 (Nat.le_refl _) (fun j hj=>by cases hj)
 have HN0:Hid (Js w w0 C none []):=⟨HW0.out.1.later hb01,HW0.out.2⟩
 have HBB:Hid (Below w.heap.size w w0):=z7 HB0.out hb01
 clear hg0 hs0 hown hsz hc hb01 HW0 HB0
 go_loopw [4] (fun _ wr=>∃ (left:Lit→Bool) (cnt:Nat) (p':Option Nat) (T':zp),Hid (wr.ranges Tryz.prog 9 R10 m (C+1) len (uA U0 T) left cnt)∧T'.length+cnt≤len ∧
   Hid (Js w wr C p' T')∧Hid (Vt (z8 T') (z8 T) left)∧Hid (Below w.heap.size w wr))
  (fun _ wr=>wr.rangeLeft m (C+1))
 case atStart=>exact ⟨_,_,none,[],hrg0,by simp,HN0,Vt.start T,HBB⟩
 case round =>
  obtain ⟨left,cnt,p',T',HRG,hcs,HNW,HC,HBW⟩:=hrel
  have hrg:=HRG.out
  go_wp2_with (first
   | (at_next; refine wpList_next_ranges _ rfl _ rfl 9 xF R10 encStr Value.map (fun key kl hk=>by obtain ⟨x,hx,_⟩:=Maps.keyOf_str Tryz.underlying9 hk; exact ⟨x,hx⟩) (fun v y hv=>by obtain ⟨c,rfl,_⟩:=ZS hv; exact ⟨c,rfl⟩) m (C+1) len _ _ _ rfl hrg ?_ ?_)
   | go_in)
  ·
   intro hc0 hl0
   have hend:=HC.out.end_ HRS.out hl0
   have HF:Hid (Vv (z8 T) w (.returned (.pointer (some ⟨C,0,none⟩))) wr):=⟨C,p',T',rfl,HNW.out,hend,HBW.out⟩
   clear hend hl0 hrg
   go_wp2
   go_ret
   exact HF.out
  ·
   intro x c kl yd yp w2 cnt2 hkey hlk hv hat hrg2 hlt hg2 hs2 hen
   obtain ⟨x',ex,rfl,_⟩:=Maps.keyOf_str Tryz.underlying9 hkey
   obtain rfl:x=x':=encStr_inj ex
   obtain ⟨q,hqT,rfl,hpe⟩:=Vg HI.out.rise hat
   obtain rfl:(some q.2.1)=c:=by
    obtain ⟨o,ho,hz⟩:=ZS hv
    have e1:c=o:=by injection ho
    have e2:ob10 (some q.2.1)=ob10 o:=hpe.trans hz
    rw [e1]; exact X5 e2
   have hit:=Fu hrg
   have hrr:w.heap.size≤C+1:=by rw [← HCC.out]; omega
   have hnx2:Below w.heap.size w w2:=HBW.out.grown hg2 HBW.out.size (fun j hj=>by cases hj; exact hrr)
   have hgt:zg (fun i=>i=C+1) wr w2:=(zg.refl _ wr).grown hg2 (fun j hj _=>by cases hj; rfl)
   have hN2:Js w w2 C p' T':=by
    refine ⟨HNW.out.1.turns hgt (fun e=>?_) (fun b hb e=>?_) (fun x hx e=>?_),HNW.out.2⟩
    ·
     have:=HNW.out.1.blk
     rw [e] at this
     exact hit.1 _ _ _ this
    ·
     obtain ⟨es,cl,ho⟩:=ZU (HNW.out.1.map b hb)
     rw [e] at ho
     exact hit.2 _ _ ho
    ·
     obtain ⟨es,cl,ho⟩:=ZU (HNW.out.1.sets x hx)
     rw [e] at ho
     exact hit.2 _ _ ho
   have HLT:Hid (cnt2<wr.rangeLeft m (C+1)):=by rw [show wr.rangeLeft m (C+1)=cnt from hrg.left_eq]; exact hlt
   have hset:zV w2 q.2.1 q.2.2:=(HI.out.later hnx2).sets q hqT
   have hcl:=Jl q.2.1 q.2.2 w2 hset
   have hkv:encStr q.1=.string (yf q.1):=rfl
   have hkl2:(yf q.1).size≤1000:=by rw [xO]; exact HNM.out q hqT
   have hln2:T'.length≤1000:=by omega
   have hcop:=HC.out.step HRS.out (k:=q.1) (l:=q.2.2) (List.mem_map.2 ⟨q,hqT,rfl⟩)
   have HPUT:Hid (∀ W,Below w2.heap.size w2 W→w2.heap.size<W.heap.size→zV W w2.heap.size q.2.2→Calls Tryz.prog 198 #[.pointer (some ⟨C,0,none⟩),.string (yf q.1),.map (some w2.heap.size)] W fun e w'=>e=.returned (.tuple #[]) ∧
     ∃ p3 T3,Hid (w'.ranges Tryz.prog 9 R10 m (C+1) len (uA U0 T) (fun z=>left z && !z.sameKey (.string q.1)) cnt2)∧T3.length+cnt2≤len∧Hid (Js w w' C p3 T3)∧Hid (Vt (z8 T3) (z8 T) (fun z=>left z && !z.sameKey (.string q.1)))∧Hid (Below w.heap.size w w')):=fun W hb hlt2 hsW=>by
    have hNW:Js w W C p' T':=⟨hN2.1.later hb,hN2.2⟩
    refine (Xy C w2.heap.size p' T' q.2.2 (yf q.1) W hNW.1 hsW (fun x hx e=>?_) (fun e=>?_) hln2 hkl2).mono fun e w' ⟨he,hp⟩=>?_
    ·
     have:=hN2.1.slt x hx; omega
    ·
     have:=hN2.1.mlt _ e; omega
    ·
     obtain ⟨p3,hn3,ht3⟩:=hp.new hNW (Nat.le_trans hnx2.size hb.size) hnx2.size
     rw [zT] at hn3
     have hrgW:=vw hrg2 hb
     have hitW:=Fu hrgW
     refine ⟨he,p3,_,VI hrgW ht3 (fun e=>?_) (fun e=>?_),?_,hn3,(by show Vt _ _ _; rw [Xz]; exact hcop),?_⟩
     ·
      rcases e with e | e
      ·
       have:=hNW.2.1; omega
      ·
       have:=hNW.2.2.1 _ e; omega
     ·
      rcases e with e | e
      ·
       have:=hNW.1.blk
       rw [← e] at this
       exact hitW.1 _ _ _ this
      ·
       obtain ⟨es,cl,ho⟩:=ZU (hNW.1.map _ e)
       exact hitW.2 _ _ ho
     ·
      have:=ZT T' q.1 (w2.heap.size,q.2.2); omega
     ·
      exact (z7 hnx2 hb).trans (zg.below_at ht3 (Nat.le_trans hnx2.size hb.size) (by
       rintro i (e | e)
       ·
        rw [e]; exact hNW.2.1
       ·
        exact hNW.2.2.1 i e))
   have HCL:=za hcl
   rw [hkv] at hen ⊢
   clear hs2 hnx2 hN2 hset hcl hkl2 hln2 hcop hat hv hpe hkey hg2 HRG hrg HNW HC hit hgt hlk hqT hkv hlt hrg2
   generalize yf q.1=kv at *
   generalize q.2.1=qb at *
   go_wp2_with fail
   with_reducible refine HCL.out.mono ?_
   rintro e w3 ⟨rfl,hs3,hb3⟩
   have HP3:=za (HPUT.out w3 hb3 (World.ownsMap.lt hs3) hs3)
   clear hs3 hb3 HCL HPUT
   go_wp2_with fail
   with_reducible refine HP3.out.mono ?_
   rintro e w4 ⟨rfl,p4,T4,HR4,hc4,HN4,HC4,HB4⟩
   clear HP3
   go_wp2
   go_roundw
   case rel=>exact ⟨_,cnt2,p4,T4,HR4,hc4,HN4,HC4,HB4⟩
   case measure=>rw [HR4.out.left_eq]; exact HLT.out
set_option maxRecDepth 100000 in
theorem copy10_none (B:Nat) (w:World) (h:zO w B none []):Calls Tryz.prog 359 #[.pointer (some ⟨B,0,none⟩)] w (Vv [] w):=by
 have HNEW:=za (fH w)
 have hb0:Below w.heap.size w (w.alloc (.cells #[.map none] 278)):=zb (Below.refl _ _) _
 have hc:=(h.later hb0).cell
 have hrg:=run_range_nilMap (P:=Tryz.prog) (w.alloc (.cells #[.map none] 278)) 276 9 274 Tryz.underlying276
 have hnx:∀ ty,(Instr.next (.pointer (some ⟨(w.alloc (.cells #[.map none] 278)).heap.size,0,none⟩)) false ty).run Tryz.prog ((w.alloc (.cells #[.map none] 278)).alloc (.mapIter none 0 #[] 0))=_:=fun ty=>run_next_nilMap _ ty 0 0 #[]
 have e1:(w.alloc (.cells #[.map none] 278)).heap.size=w.heap.size+1:=by simp
 rw [e1] at hrg hnx
 have HF:Hid (Vv [] w (.returned (.pointer (some ⟨w.heap.size,0,none⟩))) ((w.alloc (.cells #[.map none] 278)).alloc (.mapIter none 0 #[] 0))):=by
  have hb1:Below (w.alloc (.cells #[.map none] 278)).heap.size (w.alloc (.cells #[.map none] 278)) ((w.alloc (.cells #[.map none] 278)).alloc (.mapIter none 0 #[] 0)):=zb (Below.refl _ _) _
  exact ⟨_,none,[],rfl,⟨(V2 w).later hb1,Nat.le_refl _,(fun _ h=>nomatch h),(fun _ h=>nomatch h)⟩,rfl,z7 hb0 hb1⟩
 clear h hb0 e1
 go_enter Tryz.func359,Tryz.ntmps359
 go_wp2_with fail
 with_reducible refine HNEW.out.mono ?_
 rintro e w1 ⟨rfl,rfl⟩
 go_wp2
 refine wp_loop_rounds 1 ?_
 rw [rounds_succ]
 go_wp2
 go_ret
 exact HF.out
theorem copy10_calls (B:Nat) (p:Option Nat) (T:zp) (w:World) (h:zO w B p T) (hf:T.length≤1000) (hnm:∀ x∈T,x.1.length≤1000) :
  Calls Tryz.prog 359 #[.pointer (some ⟨B,0,none⟩)] w (Vv (z8 T) w):=by
 cases p with
 | none =>
  have:=h.nil rfl
  subst this
  exact copy10_none B w h
 | some m=>exact copy10_some B m T w h hf hnm
end Go.Proofs.YteegkoicalbkbaaGreatDoor
namespace Go.Proofs.YteegkoicalbkbaaGreatDoor
open Go.ChangeShapes Go.WideShapes Go.ChangeAt Go.RowKit Go.Deep

section
variable {H:Type} {enc:TypeId×Value→H} {W:World} {base:Nat} {sp:Nat→Bool} {hd:Bool} {fuel:Nat}
end
end Go.Proofs.YteegkoicalbkbaaGreatDoor
namespace Go.Proofs.YteegkoicalbkbaaGreatDoor
open Go.RowKit Go.Maps

def jk (W w':World):Prop:=∀ (k:Nat) (c:Array Value) (T:TypeId) (fr:Nat×Nat),W.heap[k]? = some (.cells c T fr)→T≠278→w'.heap[k]? = some (.cells c T fr)
theorem jk.of_below {W w':World} (hb:Below W.heap.size W w'):jk W w':=fun k _ _ _ h _=>(hb.block k (Array.getElem?_eq_some_iff.1 h).1).trans h
theorem jk.trans {a b c:World} (h:jk a b) (k:jk b c):jk a c:=fun i x T fr hi hT=>k i x T fr (h i x T fr hi hT) hT
theorem zR.keeps {W w':World} {B:Nat} {p:Option Nat} {T:zp} {S':zo} (hd:zO W B p T) (hg:zR W B p T S' w'):jk W w':=by
 obtain ⟨_,_,_,_,_,_,ht⟩:=hg
 intro k c T fr hk hT
 refine (ht.block k (Array.getElem?_eq_some_iff.1 hk).1 ?_).trans hk
 rintro (rfl | e | ⟨x,hx,rfl⟩)
 ·
  rw [hd.blk] at hk
  injection hk with hk
  injection hk with _ h
  exact hT h.symm
 ·
  exact zP (hd.map k e) hk rfl
 ·
  exact zP (hd.sets x hx) hk rfl

section
variable {w0 W W':World} {B k:Nat} {S:zo}

end

def NmR (w:World) (v:Value) (N:List (List UInt8)):Prop:=w.ownsRow 0 9 1 v N.length (N.map encStr)
theorem XA {w w':World} {b:Nat} {e size n:Nat} {v:Value} {xs:List Value} (h:w.ownsRow b e size v n xs) (hk:jk w w') (he:e≠278):w'.ownsRow b e size v n xs:=by
 refine ⟨h.1,?_⟩
 rcases h.2 with hn | ⟨g,cap,cur,e1,h0,hg,hr⟩
 ·
  exact .inl hn
 ·
  exact .inr ⟨g,cap,cur,e1,h0,hk g _ _ _ hg he,hr⟩
section
variable {w w':World} {v:Value} {N:List (List UInt8)} {M:List jj}
theorem NmR.keeps (h:NmR w v N) (hk:jk w w'):NmR w' v N:=XA h hk (by decide)
theorem NmR.later (h:NmR w v N) (hb:Below w.heap.size w w'):NmR w' v N:=xE h hb
theorem NmR.of {b:Nat} (h:w.ownsRow b 9 1 v N.length (N.map encStr)):NmR w v N:=zy h (Nat.zero_le _)
theorem NmR.nil (w:World):NmR w (.slice none 0 0) []:=World.ownsRow_nil _ _ _ _
theorem NmR.at_ (h:NmR w v N) {k:Nat} (hk:k<N.length):∃ g cap,v=.slice (some ⟨g,0,none⟩) N.length cap∧w.cell? ⟨g,k,none⟩=some (.string (yf N[k])) :=
 Z9 h (zg.refl (fun _=>False) w) (fun _ _ _ _ _ _ f=>f) hk
theorem NmR.shape (h:NmR w v N):∃ A c,v=.slice A N.length c:=xL h
theorem NmR.src (h:NmR w v N):Src Tryz.prog 1 29 v N.length (N.map encStr) w:=by
 rcases h.2 with ⟨rfl,hz⟩ | ⟨g,cap,cur,rfl,hb,hg,r1,r2,r3,r4⟩
 ·
  have:N=[]:=List.eq_nil_of_length_eq_zero hz
  subst this
  exact Src.ofNil w Tryz.underlying29 0
 ·
  refine Src.ofSlice w Tryz.underlying29 _ _ _ _ h.1 (fun j u hu=>?_) (fun u hu=>by obtain ⟨x,_,rfl⟩:=List.mem_map.1 hu; rfl)
  have hj:j<N.length:=by have:=(List.getElem?_eq_some_iff.1 hu).1; simpa using this
  have h2:(List.take (N.length * 1) cur.toList)[j]? = some u:=by rw [r4]; exact hu
  rw [List.getElem?_take,if_pos (by omega)] at h2
  rw [Addr.add_lit,Nat.zero_add]
  simpa [World.cell?,hg] using h2
end

def Yn (W:World) (b:Nat) (v1 v2:Value):Prop:=W.heap[b]? = some (.cells #[v1,v2] 251 (0,0))
section
variable {W W':World} {b:Nat} {v1 v2:Value}
theorem Yn.c0 (h:Yn W b v1 v2):W.cell? ⟨b,0,none⟩=some v1:=by simp [World.cell?,show W.heap[b]? = _ from h]
theorem Yn.c1 (h:Yn W b v1 v2):W.cell? ⟨b,1,none⟩=some v2:=by simp [World.cell?,show W.heap[b]? = _ from h]
theorem Yn.f0 (h:Yn W b v1 v2):W.frozen? ⟨b,0,none⟩=false:=by simp [World.frozen?,show W.heap[b]? = _ from h]
theorem Yn.lt (h:Yn W b v1 v2):b<W.heap.size:=(Array.getElem?_eq_some_iff.1 h).1
theorem Yn.later (h:Yn W b v1 v2) (hb:Below W.heap.size W W'):Yn W' b v1 v2:=(hb.block b h.lt).trans h
theorem Yn.turns {S:Nat→Prop} (h:Yn W b v1 v2) (ht:zg S W W') (hS:¬ S b):Yn W' b v1 v2:=(ht.block b h.lt hS).trans h
end
theorem app10 {w1 wr w2:World} {e:TypeId} {size n:Nat} {v:Value} {xs:List Value} {o:Obj} (hb:Below w1.heap.size w1 wr) (hu:wr.ownsRow w1.heap.size e size v n xs) (hg:(wr.alloc o).grownBy w2 v.ownBlock):Below w1.heap.size w1 w2 :=
 (z7 hb (zb (Below.refl _ _) _)).grown hg (by have:=hb.size; simp; omega) (fun j hj=>(hu.lt j hj).1)
theorem J7 (s:ByteArray):Proofs.encStr s.data.toList=.string s:=by
 show Value.string ⟨s.data.toList.toArray⟩=_
 simp

abbrev TG:TypeId:=251

def KeepG (W w':World):Prop:=∀ (k:Nat) (c:Array Value) (T:TypeId) (fr:Nat×Nat),W.heap[k]? = some (.cells c T fr)→T≠TG→w'.heap[k]? = some (.cells c T fr)
theorem KeepG.trans {a b c:World} (h:KeepG a b) (k:KeepG b c):KeepG a c:=fun i x T fr hi hT=>k i x T fr (h i x T fr hi hT) hT
theorem KeepG.of_below {W w':World} (hb:Below W.heap.size W w'):KeepG W w':=fun k _ _ _ h _=>(hb.block k (Array.getElem?_eq_some_iff.1 h).1).trans h
theorem Yn.keep {W:World} {b:Nat} {v1 v2:Value} (h:Yn W b v1 v2) (i:Nat) (x:Value):KeepG W (W.setCell ⟨b,i,none⟩ x):=fun k c T fr hk hT=>by
 refine (Below.heap_setCell _ _ _ _ (fun e=>hT ?_)).trans hk
 have e':k=b:=e
 rw [e',show W.heap[b]? = _ from h] at hk
 injection hk with hk
 injection hk with _ hk
 exact hk.symm
theorem Yn.set0 {W:World} {b:Nat} {v1 v2:Value} (h:Yn W b v1 v2) (x:Value):Yn (W.setCell ⟨b,0,none⟩ x) b x v2:=by
 have h':W.heap[b]? = some (.cells #[v1,v2] TG (0,0)):=h
 have hl:=h.lt
 have:=h'
 rw [Array.getElem?_eq_getElem hl] at this
 injection this with this
 show (W.setCell ⟨b,0,none⟩ x).heap[b]? = _
 simp [World.setCell,hl,Array.getElem_modify,this]
theorem Yn.set1 {W:World} {b:Nat} {v1 v2:Value} (h:Yn W b v1 v2) (x:Value):Yn (W.setCell ⟨b,1,none⟩ x) b v1 x:=by
 have h':W.heap[b]? = some (.cells #[v1,v2] TG (0,0)):=h
 have hl:=h.lt
 have:=h'
 rw [Array.getElem?_eq_getElem hl] at this
 injection this with this
 show (W.setCell ⟨b,1,none⟩ x).heap[b]? = _
 simp [World.setCell,hl,Array.getElem_modify,this]
theorem Yn.other {W:World} {b c i:Nat} {v1 v2:Value} (h:Yn W b v1 v2) (hne:b≠c) (x:Value):Yn (W.setCell ⟨c,i,none⟩ x) b v1 v2:=(Below.heap_setCell _ _ _ _ hne).trans h
theorem Below.cellG {w wr:World} {b i:Nat} (hb:Below w.heap.size w wr) (h:w.heap.size≤b) (x:Value):Below w.heap.size w (wr.setCell ⟨b,i,none⟩ x):=hb.setCell (p:=⟨b,i,none⟩) h x
theorem fin2 {w wr:World} {b:Nat} {u1 u2:Value} (hb:Below w.heap.size w wr) (hr:Yn wr b u1 u2) (h:w.heap.size≤b) (x y:Value) :
  Yn ((wr.setCell ⟨b,0,none⟩ x).setCell ⟨b,1,none⟩ y) b x y∧Below w.heap.size w ((wr.setCell ⟨b,0,none⟩ x).setCell ⟨b,1,none⟩ y)∧KeepG wr ((wr.setCell ⟨b,0,none⟩ x).setCell ⟨b,1,none⟩ y) :=
 ⟨(hr.set0 x).set1 y,Below.cellG (Below.cellG hb h x) h y,(hr.keep 0 x).trans ((hr.set0 x).keep 1 y)⟩



end Go.Proofs.YteegkoicalbkbaaGreatDoor
