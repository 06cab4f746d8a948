/-
  The texts that the laws of this seat share, part 7: what the code and the document's own answers tell, walked function by function.
  Conditions: each theorem's own.
-/
import Derived.Maps.RangeWalk
import Derived.LoopN
import Derived.Maps.AppendAt
import Derived.Test.YteegkoicalbkbaaGreatDoorHosVBF
set_option maxHeartbeats 16000000
namespace Go.Proofs.YteegkoicalbkbaaGreatDoor
open Go.Maps

abbrev yK (V:Type):=List (List UInt8×V)
section
variable {V:Type}
def zJ (L:yK V):Prop:=L.Pairwise (fun p q=>bytesBefore p.1 q.1=true)
def entV (e:V→DataW Unit) (p:List UInt8×V):Lit×DataW Unit:=(.string p.1,e p.2)
def uK (e:V→DataW Unit) (L:yK V):DataW Unit:=.map (L.map (entV e))
def JK (x:List UInt8×V):yK V→yK V
 | []=>[x]
 | y::r=>if bytesBefore x.1 y.1 then x::y::r else y::JK x r
def xF (L:yK V) (k:List UInt8):yK V:=L.filter (fun p=>!(p.1 == k))
def yR (L:yK V) (k:List UInt8) (v:V):yK V:=JK (k,v) (xF L k)
def zz (L:yK V) (k:List UInt8):Bool:=L.any (fun p=>p.1 == k)
def qe (L:yK V) (k:List UInt8):Option V:=(L.find? (fun p=>p.1 == k)).map (·.2)
def zc (L:yK V):List (List UInt8):=L.map (·.1)
def Y6 (f:V→V) (L:yK V) (k:List UInt8):yK V:=L.map fun p=>if p.1=k then (p.1,f p.2) else p

theorem datV_ins (e:V→DataW Unit) (x:List UInt8×V):∀ L:yK V,(JK x L).map (entV e)=DataW.insert (entV e x) (L.map (entV e))
 | []=>rfl
 | y::r=>by
  simp only [JK,List.map_cons,DataW.insert]
  have h:(entV e x).1.before (entV e y).1=bytesBefore x.1 y.1:=rfl
  rw [h]
  cases bytesBefore x.1 y.1
  ·
   simp [datV_ins e x r]
  ·
   simp
theorem QE (e:V→DataW Unit) (k:List UInt8):∀ L:yK V,(xF L k).map (entV e)=(L.map (entV e)).filter (fun p=>!p.1.sameKey (.string k))
 | []=>rfl
 | y::r=>by
  have ih:=QE e k r
  unfold xF at ih ⊢
  have h:(entV e y).1.sameKey (.string k)=(y.1 == k):=rfl
  simp only [List.filter_cons,List.map_cons,h]
  cases (y.1 == k) <;> simp [ih]
theorem QD (e:V→DataW Unit) (L:yK V) (k:List UInt8) (v:V):(uK e L).put (.string k) (e v)=uK e (yR L k v):=by
 unfold uK yR
 rw [datV_ins,QE]; rfl
theorem QF (e:V→DataW Unit) (L:yK V) (k:List UInt8):(uK e L).del (.string k)=uK e (xF L k):=by
 unfold uK
 rw [QE]; rfl
theorem YH (e:V→DataW Unit) (L:yK V) (k:List UInt8):Maps.has (uK e L) (.string k)=zz L k:=by
 unfold uK zz
 rw [Maps.has_eq,List.any_map]; rfl
theorem datV_at (e:V→DataW Unit) (L:yK V) (k:List UInt8) (z:DataW Unit):(uK e L).atKey (.string k) z=match qe L k with | some v=>e v | none=>z:=by
 unfold uK qe
 unfold DataW.atKey
 simp only [List.find?_map]
 have h:((fun p:Lit×DataW Unit=>p.1.sameKey (.string k)) ∘ entV e)=(fun p:List UInt8×V=>p.1 == k):=rfl
 rw [h]
 cases L.find? (fun p=>p.1 == k) <;> rfl
theorem vK (e:V→DataW Unit) (L:yK V):Maps.size (uK e L)=L.length:=by simp [uK,Maps.size]
theorem datV_upd {e:V→DataW Unit} {f:V→V} (hf:∀ v,e (f v)=e v) (L:yK V) (k:List UInt8):uK e (Y6 f L k)=uK e L:=by
 unfold uK Y6
 rw [List.map_map]
 congr 1
 refine List.map_congr_left fun p _=>?_
 show entV e (if p.1=k then (p.1,f p.2) else p)=entV e p
 split
 ·
  unfold entV; rw [hf]
 ·
  rfl

theorem Q9 {x y:List UInt8×V}:∀ {L:yK V},y∈JK x L↔y=x∨y∈L
 | []=>by simp [JK]
 | z::r=>by
  unfold JK
  split
  ·
   simp
  ·
   simp only [List.mem_cons,Q9 (L:=r)]
   constructor
   ·
    rintro (h | h | h)
    ·
     exact .inr (.inl h)
    ·
     exact .inl h
    ·
     exact .inr (.inr h)
   ·
    rintro (h | h | h)
    ·
     exact .inr (.inl h)
    ·
     exact .inl h
    ·
     exact .inr (.inr h)
theorem yu {L:yK V} {k:List UInt8} {p:List UInt8×V}:p∈xF L k↔p∈L∧p.1≠k:=by
 unfold xF; simp
theorem yM {L:yK V} {k:List UInt8} {v:V} {p:List UInt8×V}:p∈yR L k v↔p=(k,v)∨(p∈L∧p.1≠k):=by
 unfold yR
 rw [Q9,yu]
theorem yo {L:yK V} (h:zJ L) (k:List UInt8):zJ (xF L k):=h.filter _
theorem Jh {x:List UInt8×V}:∀ {L:yK V},zJ L→(∀ p∈L,p.1≠x.1)→zJ (JK x L)
 | [],_,_=>by simp [JK,zJ]
 | y::r,h,hn=>by
  unfold JK
  obtain ⟨h1,h2⟩:=List.pairwise_cons.1 h
  split
  ·
   rename_i hb
   exact List.pairwise_cons.2 ⟨fun p hp=>by
    rcases List.mem_cons.1 hp with rfl | hp
    ·
     exact hb
    ·
     exact WideShapes.bytes_trans _ _ _ hb (h1 p hp),h⟩
  ·
   rename_i hb
   have hyx:bytesBefore y.1 x.1=true:=by
    rcases WideAt.bytes_total y.1 x.1 (hn y (by simp)) with h' | h'
    ·
     exact h'
    ·
     exact absurd h' hb
   exact List.pairwise_cons.2 ⟨fun p hp=>by
    rcases Q9.1 hp with rfl | hp
    ·
     exact hyx
    ·
     exact h1 p hp,Jh h2 (fun p hp=>hn p (by simp [hp]))⟩
theorem xc {L:yK V} (h:zJ L) (k:List UInt8) (v:V):zJ (yR L k v) :=
 Jh (yo h k) (fun _ hp=>(yu.1 hp).2)
theorem qC (f:V→V) (L:yK V) (k:List UInt8):zc (Y6 f L k)=zc L:=by
 unfold zc Y6
 rw [List.map_map]
 refine List.map_congr_left fun p _=>?_
 show (if p.1=k then (p.1,f p.2) else p).1=p.1
 split <;> rfl
theorem xH {W:Type} {L:yK V} {L':yK W} (h:zJ L) (e:zc L'=zc L):zJ L':=by
 have h1:(zc L).Pairwise (fun a b=>bytesBefore a b=true):=List.pairwise_map.2 h
 rw [← e] at h1
 exact List.pairwise_map.1 h1
theorem X5 {L:yK V} (h:zJ L) (f:V→V) (k:List UInt8):zJ (Y6 f L k):=xH h (qC f L k)

theorem vf {L:yK V} {k:List UInt8}:zz L k=true↔∃ p∈L,p.1=k:=by simp [zz]
theorem yC {L:yK V} {k:List UInt8}:zz L k=true↔k∈zc L:=by
 rw [vf]
 simp [zc]
theorem jS {L:yK V} {k:List UInt8}:zz L k=false↔k∉zc L:=by
 rw [← yC]; simp
theorem XH {L:yK V} {k:List UInt8} (h:zz L k=false):xF L k=L:=by
 unfold xF; rw [List.filter_eq_self]
 intro p hp
 cases e:(p.1 == k)
 ·
  rfl
 ·
  have:zz L k=true:=vf.2 ⟨p,hp,by simpa using e⟩
  rw [h] at this; cases this
theorem fB (x:List UInt8×V):∀ L:yK V,(JK x L).length=L.length+1
 | []=>rfl
 | y::r=>by unfold JK; split <;> simp [fB x r]
theorem fH (L:yK V) (k:List UInt8):(xF L k).length≤L.length:=List.length_filter_le _ _
theorem delV_lt {L:yK V} {k:List UInt8} (h:zz L k=true):(xF L k).length<L.length:=by
 unfold xF
 obtain ⟨p,hp,e⟩:=vf.1 h
 rcases Nat.lt_or_ge (L.filter fun p=>!(p.1 == k)).length L.length with h1 | h1
 ·
  exact h1
 ·
  have h2:=List.filter_eq_self.1 (List.length_filter_eq_length_iff.1 (Nat.le_antisymm (List.length_filter_le _ _) h1) |> List.filter_eq_self.2)
  have:=h2 p hp
  simp [e] at this
theorem X9 (L:yK V) (k:List UInt8) (v:V):(yR L k v).length≤L.length+1:=by
 unfold yR
 rw [fB]
 have:=fH L k
 omega
theorem putV_has {L:yK V} {k:List UInt8} (v:V) (h:zz L k=true):(yR L k v).length≤L.length:=by
 unfold yR
 rw [fB]
 have:=delV_lt h
 omega
theorem ye {L:yK V} (hr:zJ L) {k:List UInt8} {v:V}:qe L k=some v↔(k,v)∈L:=by
 induction L with
 | nil=>simp [qe]
 | cons y r ih =>
  obtain ⟨h1,h2⟩:=List.pairwise_cons.1 hr
  unfold qe at ih ⊢
  rw [List.find?_cons]
  by_cases e:y.1=k
  ·
   have e':(y.1 == k)=true:=by simpa using e
   simp only [e',Option.map_some,Option.some.injEq,List.mem_cons]
   constructor
   ·
    intro h; left; rw [← h,← e]
   ·
    rintro (h | h)
    ·
     rw [← h]
    ·
     exact absurd (h1 _ h) (by rw [e,zB]; exact Bool.noConfusion)
  ·
   have e':(y.1 == k)=false:=by simpa using e
   simp only [e',List.mem_cons]
   rw [ih h2]
   constructor
   ·
    exact .inr
   ·
    rintro (h | h)
    ·
     exact absurd (by rw [← h]) e
    ·
     exact h
theorem qF {L:yK V} {k:List UInt8}:qe L k=none↔zz L k=false:=by
 unfold qe zz
 rw [Option.map_eq_none_iff,List.find?_eq_none,List.any_eq_false]
theorem qT {L:yK V} {k:List UInt8} (h:zz L k=true):∃ v,qe L k=some v:=by
 cases hg:qe L k
 ·
  rw [qF.1 hg] at h; cases h
 ·
  exact ⟨_,rfl⟩
theorem Jg {L:yK V} (hr:zJ L) {p q:List UInt8×V} (hp:p∈L) (hq:q∈L) (e:p.1=q.1):p=q:=by
 have h1:=(ye hr (k:=p.1) (v:=p.2)).2 hp
 have h2:=(ye hr (k:=p.1) (v:=q.2)).2 (by rw [e]; exact hq)
 rw [h1] at h2
 injection h2 with h2
 exact Prod.ext e h2
theorem Jw {L:yK V} {k:List UInt8} {v:V} {x:List UInt8}:x∈zc (yR L k v)↔x=k∨x∈zc L:=by
 unfold zc
 simp only [List.mem_map,yM]
 constructor
 ·
  rintro ⟨p,rfl | ⟨hp,_⟩,rfl⟩
  ·
   exact .inl rfl
  ·
   exact .inr ⟨p,hp,rfl⟩
 ·
  rintro (rfl | ⟨p,hp,rfl⟩)
  ·
   exact ⟨_,.inl rfl,rfl⟩
  ·
   by_cases e:p.1=k
   ·
    exact ⟨(k,v),.inl rfl,e.symm⟩
   ·
    exact ⟨p,.inr ⟨hp,e⟩,rfl⟩
theorem Jx {L:yK V} {k x:List UInt8}:x∈zc (xF L k)↔x∈zc L∧x≠k:=by
 unfold zc
 simp only [List.mem_map,yu]
 constructor
 ·
  rintro ⟨p,⟨hp,hn⟩,rfl⟩; exact ⟨⟨p,hp,rfl⟩,hn⟩
 ·
  rintro ⟨⟨p,hp,rfl⟩,hn⟩; exact ⟨p,⟨hp,hn⟩,rfl⟩
theorem uG {L:yK V} {k x:List UInt8} {v:V}:zz (yR L k v) x=true↔x=k∨zz L x=true:=by
 rw [yC,Jw,yC]
theorem uH {L:yK V} {k x:List UInt8}:zz (xF L k) x=true↔zz L x=true∧x≠k:=by
 rw [yC,Jx,yC]
theorem map_insV {W:Type} (f:V→W) (x:List UInt8×V):∀ L:yK V,(JK x L).map (fun p=>(p.1,f p.2))=JK (x.1,f x.2) (L.map fun p=>(p.1,f p.2))
 | []=>rfl
 | y::r=>by
  unfold JK
  simp only [List.map_cons]
  split <;> simp [map_insV f x r]
theorem map_delV {W:Type} (f:V→W) (L:yK V) (k:List UInt8):(xF L k).map (fun p=>(p.1,f p.2))=xF (L.map fun p=>(p.1,f p.2)) k:=by
 unfold xF
 rw [List.filter_map]
 rfl
theorem map_putV {W:Type} (f:V→W) (L:yK V) (k:List UInt8) (v:V):(yR L k v).map (fun p=>(p.1,f p.2))=yR (L.map fun p=>(p.1,f p.2)) k (f v):=by
 unfold yR
 rw [map_insV,map_delV]
theorem uk {W:Type} (f:V→W) (L:yK V):zc (L.map fun p=>(p.1,f p.2))=zc L:=by
 unfold zc
 rw [List.map_map]; rfl
theorem map_hasV {W:Type} (f:V→W) (L:yK V) (k:List UInt8):zz (L.map fun p=>(p.1,f p.2)) k=zz L k:=by
 unfold zz
 rw [List.any_map]; rfl
end

/-! ### rows of texts -/
def un (l:List (List UInt8)):Prop:=l.Pairwise (fun a b=>bytesBefore a b=true)
theorem zJ.names {V:Type} {L:yK V} (h:zJ L):un (zc L):=List.pairwise_map.2 h
theorem ui:∀ {a b:List (List UInt8)},un a→un b→(∀ x,x∈a↔x∈b)→a=b
 | [],[],_,_,_=>rfl
 | [],y::s,_,_,h=>absurd ((h y).2 (by simp)) (by simp)
 | x::r,[],_,_,h=>absurd ((h x).1 (by simp)) (by simp)
 | x::r,y::s,ha,hb,h=>by
  obtain ⟨a1,a2⟩:=List.pairwise_cons.1 ha
  obtain ⟨b1,b2⟩:=List.pairwise_cons.1 hb
  have e:x=y:=by
   rcases List.mem_cons.1 ((h x).1 (by simp)) with e | hx
   ·
    exact e
   ·
    rcases List.mem_cons.1 ((h y).2 (by simp)) with e | hy
    ·
     exact e.symm
    ·
     exact absurd (b1 _ hx) (by rw [ua (a1 _ hy)]; exact Bool.noConfusion)
  subst e
  rw [ui a2 b2 fun z=>?_]
  constructor
  ·
   intro hz
   rcases List.mem_cons.1 ((h z).1 (by simp [hz])) with e | h'
   ·
    subst e; exact absurd (a1 _ hz) (by rw [zB]; exact Bool.noConfusion)
   ·
    exact h'
  ·
   intro hz
   rcases List.mem_cons.1 ((h z).2 (by simp [hz])) with e | h'
   ·
    subst e; exact absurd (b1 _ hz) (by rw [zB]; exact Bool.noConfusion)
   ·
    exact h'
theorem J8 {ls ss:List (List UInt8)} (hr:un ls) (hp:ss.Perm ls) (le:List UInt8→List UInt8→Bool) (hle:∀ x y,le x y=!bytesBefore y x):ss.mergeSort le=ls:=by
 have:=VS (L:=ls.map fun x=>(x,[])) (List.pairwise_map.2 (by exact hr)) (ss:=ss) (by rw [List.map_map]; exact (List.map_id ls).symm ▸ hp) le hle
 rw [this,List.map_map]
 exact List.map_id ls

def insT (s:List UInt8):List (List UInt8)→List (List UInt8)
 | []=>[s]
 | t::r=>if bytesBefore s t then s::t::r else t::insT s r
theorem Qn {s x:List UInt8}:∀ {l:List (List UInt8)},x∈insT s l↔x=s∨x∈l
 | []=>by simp [insT]
 | t::r=>by
  unfold insT
  split
  ·
   simp
  ·
   simp only [List.mem_cons,Qn (l:=r)]
   constructor
   ·
    rintro (h | h | h)
    ·
     exact .inr (.inl h)
    ·
     exact .inl h
    ·
     exact .inr (.inr h)
   ·
    rintro (h | h | h)
    ·
     exact .inr (.inl h)
    ·
     exact .inl h
    ·
     exact .inr (.inr h)
theorem JL {s:List UInt8}:∀ {l:List (List UInt8)},un l→s∉l→un (insT s l)
 | [],_,_=>by simp [insT,un]
 | t::r,h,hn=>by
  unfold insT
  obtain ⟨h1,h2⟩:=List.pairwise_cons.1 h
  split
  ·
   rename_i hb
   exact List.pairwise_cons.2 ⟨fun p hp=>by
    rcases List.mem_cons.1 hp with rfl | hp
    ·
     exact hb
    ·
     exact WideShapes.bytes_trans _ _ _ hb (h1 p hp),h⟩
  ·
   rename_i hb
   have hts:bytesBefore t s=true:=by
    rcases WideAt.bytes_total t s (fun e=>hn (by simp [e])) with h' | h'
    ·
     exact h'
    ·
     exact absurd h' hb
   exact List.pairwise_cons.2 ⟨fun p hp=>by
    rcases Qn.1 hp with rfl | hp
    ·
     exact hts
    ·
     exact h1 p hp,JL h2 (fun hp=>hn (by simp [hp]))⟩
def uB (out:List (List UInt8)) (s:List UInt8):List (List UInt8):=if s∈out then out else insT s out
def UJ (l:List (List UInt8)):List (List UInt8):=l.foldl uB []
theorem UK {o:List (List UInt8)} (h:un o) (s:List UInt8):un (uB o s):=by
 unfold uB
 split
 ·
  exact h
 ·
  rename_i hn; exact JL h hn
theorem J9 {o:List (List UInt8)} {s x:List UInt8}:x∈uB o s↔x=s∨x∈o:=by
 unfold uB
 split
 ·
  rename_i h
  constructor
  ·
   exact .inr
  ·
   rintro (rfl | h')
   ·
    exact h
   ·
    exact h'
 ·
  exact Qn
theorem Ue:∀ (l o:List (List UInt8)),un o→un (l.foldl uB o)
 | [],_,h=>h
 | s::r,_,h=>Ue r _ (UK h s)
theorem JW {x:List UInt8}:∀ (l o:List (List UInt8)),x∈l.foldl uB o↔x∈l∨x∈o
 | [],_=>by simp
 | s::r,o=>by
  show x∈r.foldl uB (uB o s)↔_
  rw [JW r,J9]
  simp only [List.mem_cons]
  constructor
  ·
   rintro (h | h | h)
   ·
    exact .inl (.inr h)
   ·
    exact .inl (.inl h)
   ·
    exact .inr h
  ·
   rintro ((h | h) | h)
   ·
    exact .inr (.inl h)
   ·
    exact .inl h
   ·
    exact .inr (.inr h)
theorem VT (l:List (List UInt8)):un (UJ l):=Ue l [] List.Pairwise.nil
theorem YT {l:List (List UInt8)} {x:List UInt8}:x∈UJ l↔x∈l:=by
 unfold UJ
 rw [JW]; simp
theorem sortT_eq {l r:List (List UInt8)} (hr:un r) (h:∀ x,x∈r↔x∈l):UJ l=r :=
 ui (VT l) hr fun x=>by rw [YT,h]

/-! ### groups,as the code has them -/
abbrev zI:=yK Unit
abbrev zn:=yK zI
def Vm (S:zn) (g:List UInt8):zI:=(qe S g).getD []
def vP (S:zn) (g n:List UInt8):Bool:=zz (Vm S g) n
def zV (S:zn) (g:List UInt8) (l:List (List UInt8)):Int:=if zh g && l.all zh then (if zz S g then 0 else 8) else 10
def qv (S:zn) (g:List UInt8):Int:=if zh g then (if zz S g then 9 else if 6≤S.length then 7 else 0) else 10
def jg (S:zn) (g:List UInt8):zn:=if qv S g=0 then yR S g [] else S
def uW (S:zn) (g:List UInt8):Int:=zV S g []
def fF (S:zn) (g:List UInt8):zn:=if uW S g=0 then xF S g else S
def qw (S:zn) (g n:List UInt8):Int:=if zV S g [n]=0 then (if vP S g n then 9 else 0) else zV S g [n]
def qQ (S:zn) (g n:List UInt8):zn:=if qw S g n=0 then Y6 (fun l=>yR l n ()) S g else S
def ZM (S:zn) (g n:List UInt8):Int:=if zV S g [n]=0 then (if vP S g n then 0 else 12) else zV S g [n]
def ZL (S:zn) (g n:List UInt8):zn:=if ZM S g n=0 then Y6 (fun l=>xF l n) S g else S
def fy (S:zn) (g:List UInt8):List (List UInt8):=if uW S g=0 then zc (Vm S g) else []
def ofs10 (S:zn) (n:List UInt8):zn:=S.filter fun p=>zz p.2 n
def yS (S:zn) (n:List UInt8):List (List UInt8):=zc (ofs10 S n)
def Z4 (S:zn) (o n:List UInt8):Int:=if zh n then (if n≠o∧yS S n≠[] then 9 else 0) else 10
def fZ (o n:List UInt8) (l:zI):zI:=if zz l o then yR (xF l o) n () else l
def ZC (S:zn) (o n:List UInt8):zn:=if Z4 S o n=0 then S.map (fun p=>(p.1,fZ o n p.2)) else S
def qN (S:zn) (n:List UInt8):zn:=S.map fun p=>(p.1,xF p.2 n)

structure zC (S:zn) (k:Nat):Prop where
 rise:zJ S
 sets:∀ p∈S,zJ p.2
 few:S.length≤6
 little:∀ p∈S,p.2.length≤k
 named:∀ p∈S,zh p.1=true
 whos:∀ p∈S,∀ m∈p.2,zh m.1=true
theorem zC.nil:zC [] 0:=⟨List.Pairwise.nil,(fun _ h=>nomatch h),by simp,(fun _ h=>nomatch h),(fun _ h=>nomatch h),(fun _ h=>nomatch h)⟩
theorem zC.mono {S:zn} {k k':Nat} (h:zC S k) (hk:k≤k'):zC S k':=⟨h.rise,h.sets,h.few,fun p hp=>Nat.le_trans (h.little p hp) hk,h.named,h.whos⟩

theorem ql {S:zn} (hr:zJ S) {p:List UInt8×zI} (h:p∈S):Vm S p.1=p.2:=by
 unfold Vm
 rw [(ye hr).2 (show (p.1,p.2)∈S from h)]; rfl
theorem mem10_none {S:zn} {g:List UInt8} (h:zz S g=false):Vm S g=[]:=by
 unfold Vm
 rw [qF.2 h]; rfl
theorem xI {S:zn} (hr:zJ S) {g n:List UInt8}:vP S g n=true↔∃ p∈S,p.1=g∧zz p.2 n=true:=by
 unfold vP
 constructor
 ·
  intro h
  cases hg:zz S g with
  | false=>rw [mem10_none hg] at h; cases h
  | true =>
   obtain ⟨p,hp,rfl⟩:=vf.1 hg
   rw [ql hr hp] at h
   exact ⟨p,hp,rfl,h⟩
 ·
  rintro ⟨p,hp,rfl,h⟩
  rw [ql hr hp]; exact h
theorem xd {S:zn} (hr:zJ S) {g n:List UInt8}:g∈yS S n↔vP S g n=true:=by
 rw [xI hr]
 unfold yS ofs10 zc
 simp only [List.mem_map,List.mem_filter]
 constructor
 ·
  rintro ⟨p,⟨hp,h⟩,rfl⟩; exact ⟨p,hp,rfl,h⟩
 ·
  rintro ⟨p,hp,rfl,h⟩; exact ⟨p,⟨hp,h⟩,rfl⟩
theorem xW {S:zn} (hr:zJ S) (n:List UInt8):un (yS S n):=zJ.names (hr.filter _)
theorem jM {S:zn} {g n:List UInt8} (h:g∈yS S n):g∈zc S:=by
 unfold yS ofs10 zc at h
 obtain ⟨p,hp,rfl⟩:=List.mem_map.1 h
 exact List.mem_map.2 ⟨p,(List.mem_filter.1 hp).1,rfl⟩
theorem ZE (S:zn) (n:List UInt8):(yS S n).length≤S.length:=by
 unfold yS ofs10 zc
 rw [List.length_map]
 exact List.length_filter_le _ _
theorem xm {V:Type} (L:yK V):(zc L).length=L.length:=List.length_map _

theorem JU {S:zn} {k:Nat} (h:zC S k) (g:List UInt8):zC (jg S g) k:=by
 unfold jg
 split
 case isFalse=>exact h
 case isTrue he =>
  unfold qv at he
  split at he
  case isFalse=>cases he
  case isTrue hn =>
  split at he
  ·
   cases he
  ·
   rename_i hh
   have hf:zz S g=false:=by simpa using hh
   split at he
   ·
    cases he
   ·
    rename_i h6
    refine ⟨xc h.rise g [],fun p hp=>?_,?_,fun p hp=>?_,fun p hp=>?_,fun p hp=>?_⟩
    ·
     rcases yM.1 hp with rfl | ⟨hp,_⟩
     ·
      exact List.Pairwise.nil
     ·
      exact h.sets p hp
    ·
     have:=X9 S g []; omega
    ·
     rcases yM.1 hp with rfl | ⟨hp,_⟩
     ·
      simp
     ·
      exact h.little p hp
    ·
     rcases yM.1 hp with rfl | ⟨hp,_⟩
     ·
      exact hn
     ·
      exact h.named p hp
    ·
     rcases yM.1 hp with rfl | ⟨hp,_⟩
     ·
      intro m hm; cases hm
     ·
      exact h.whos p hp
theorem XB {S:zn} {k:Nat} (h:zC S k) (g:List UInt8):zC (fF S g) k:=by
 unfold fF
 split
 ·
  exact ⟨yo h.rise g,fun p hp=>h.sets p (yu.1 hp).1,Nat.le_trans (fH S g) h.few,fun p hp=>h.little p (yu.1 hp).1,fun p hp=>h.named p (yu.1 hp).1,fun p hp=>h.whos p (yu.1 hp).1⟩
 ·
  exact h
theorem good_upd {S:zn} {k k':Nat} (h:zC S k) (f:zI→zI) (g:List UInt8) (hk:k≤k') (hf:∀ l:zI,zJ l→l.length≤k→zJ (f l)∧(f l).length≤k') (hw:∀ l:zI,(∀ m∈l,zh m.1=true)→∀ m∈f l,zh m.1=true):zC (Y6 f S g) k':=by
 refine ⟨X5 h.rise f g,fun p hp=>?_,by rw [Y6,List.length_map]; exact h.few,fun p hp=>?_,fun p hp=>?_,fun p hp=>?_⟩
 all_goals
  obtain ⟨q,hq,rfl⟩:=List.mem_map.1 hp
  have:=hf q.2 (h.sets q hq) (h.little q hq)
  by_cases e:q.1=g
  ·
   simp only [e,if_true]
   first | exact this.1 | exact this.2 | (rw [← e]; exact h.named q hq) | exact hw q.2 (h.whos q hq)
  ·
   simp only [e,if_false]
   first | exact h.sets q hq | exact Nat.le_trans (h.little q hq) hk | exact h.named q hq | exact h.whos q hq
theorem jt {S:zn} {k:Nat} (h:zC S k) (g n:List UInt8):zC (qQ S g n) (k+1):=by
 unfold qQ
 split
 ·
  rename_i he
  have hn:zh n=true:=by
   unfold qw at he
   split at he
   ·
    rename_i hz
    unfold zV at hz
    split at hz
    ·
     rename_i hb
     simp only [List.all_cons,List.all_nil,Bool.and_true,Bool.and_eq_true] at hb
     exact hb.2
    ·
     cases hz
   ·
    rename_i hz; exact absurd he hz
  exact good_upd h _ g (by omega) (fun l hl hk=>⟨xc hl n (),by have:=X9 l n (); omega⟩) fun l hl m hm=>by
   rcases yM.1 hm with rfl | ⟨hm,_⟩
   ·
    exact hn
   ·
    exact hl m hm
 ·
  exact h.mono (by omega)
theorem jT {S:zn} {k:Nat} (h:zC S k) (g n:List UInt8):zC (ZL S g n) k:=by
 unfold ZL
 split
 ·
  exact good_upd h _ g (by omega) (fun l hl hk=>⟨yo hl n,Nat.le_trans (fH l n) hk⟩) fun l hl m hm=>hl m (yu.1 hm).1
 ·
  exact h
theorem ren10_rise {o n:List UInt8} {l:zI} (h:zJ l):zJ (fZ o n l):=by
 unfold fZ
 split
 ·
  exact xc (yo h o) n ()
 ·
  exact h
theorem ren10_le (o n:List UInt8) (l:zI):(fZ o n l).length≤l.length:=by
 unfold fZ
 split
 ·
  rename_i h
  have h1:=delV_lt h
  have h2:=X9 (xF l o) n ()
  omega
 ·
  exact Nat.le_refl _
theorem good_map {S:zn} {k:Nat} (h:zC S k) (f:zI→zI) (hf:∀ l:zI,zJ l→zJ (f l)∧(f l).length≤l.length) (hw:∀ l:zI,(∀ m∈l,zh m.1=true)→∀ m∈f l,zh m.1=true):zC (S.map fun p=>(p.1,f p.2)) k:=by
 refine ⟨xH h.rise (uk f S),fun p hp=>?_,by rw [List.length_map]; exact h.few,fun p hp=>?_,fun p hp=>?_,fun p hp=>?_⟩
 all_goals
  obtain ⟨q,hq,rfl⟩:=List.mem_map.1 hp
  have:=hf q.2 (h.sets q hq)
  first | exact this.1 | exact Nat.le_trans this.2 (h.little q hq) | exact h.named q hq | exact hw q.2 (h.whos q hq)
theorem qS {S:zn} {k:Nat} (h:zC S k) (o n:List UInt8):zC (ZC S o n) k:=by
 unfold ZC
 split
 ·
  rename_i he
  have hn:zh n=true:=by
   unfold Z4 at he
   split at he
   ·
    assumption
   ·
    cases he
  exact good_map h _ (fun l hl=>⟨ren10_rise hl,ren10_le o n l⟩) fun l hl m hm=>by
   unfold fZ at hm
   split at hm
   ·
    rcases yM.1 hm with rfl | ⟨hm,_⟩
    ·
     exact hn
    ·
     exact hl m (yu.1 hm).1
   ·
    exact hl m hm
 ·
  exact h
theorem XA {S:zn} {k:Nat} (h:zC S k) (n:List UInt8):zC (qN S n) k:=good_map h _ (fun l hl=>⟨yo hl n,fH l n⟩) fun _ hl m hm=>hl m (yu.1 hm).1

abbrev qX:=List UInt8×List UInt8
def fh (l:List (List UInt8)) (s:List UInt8):Bool:=l.any fun t=>t == s
theorem qm {l:List (List UInt8)} {s:List UInt8}:fh l s=true↔s∈l:=by simp [fh]
def QB (N:List (List UInt8)) (g:List UInt8):List (List UInt8):=N.filter fun s=>!(s == g)
def dropM (M:List qX) (g:List UInt8):List qX:=M.filter fun m=>!(m.1 == g)
def outM (M:List qX) (g n:List UInt8):List qX:=M.filter fun m=>!(m.1 == g) || !(m.2 == n)
def ofM (M:List qX) (n:List UInt8):List (List UInt8):=(M.filter fun m=>m.2 == n).map (·.1)
def renM (M:List qX) (o n:List UInt8):List qX:=M.map fun m=>if m.2 == o then (m.1,n) else m
def rmM (M:List qX) (n:List UInt8):List qX:=(UJ (ofM M n)).foldl (fun m g=>outM m g n) M

theorem UW {M:List qX} {g n:List UInt8} {m:qX}:m∈outM M g n↔m∈M∧(m.1=g→m.2≠n):=by
 simp only [outM,List.mem_filter,Bool.or_eq_true,Bool.not_eq_true',beq_eq_false_iff_ne]
 constructor
 ·
  rintro ⟨h,h' | h'⟩
  ·
   exact ⟨h,fun e=>absurd e h'⟩
  ·
   exact ⟨h,fun _=>h'⟩
 ·
  rintro ⟨h,h'⟩
  refine ⟨h,?_⟩
  by_cases e:m.1=g
  ·
   exact .inr (h' e)
  ·
   exact .inl e
theorem Jp {n:List UInt8} {m:qX}:∀ (gs:List (List UInt8)) (M:List qX),m∈gs.foldl (fun m g=>outM m g n) M↔m∈M∧(m.1∈gs→m.2≠n)
 | [],M=>by simp
 | g::r,M=>by
  show m∈r.foldl (fun m g=>outM m g n) (outM M g n)↔_
  rw [Jp r,UW]
  simp only [List.mem_cons]
  constructor
  ·
   rintro ⟨⟨h,h1⟩,h2⟩
   exact ⟨h,fun e=>e.elim h1 h2⟩
  ·
   rintro ⟨h,h1⟩
   exact ⟨⟨h,fun e=>h1 (.inl e)⟩,fun e=>h1 (.inr e)⟩
theorem ofM_mem {M:List qX} {g n:List UInt8}:g∈ofM M n↔(g,n)∈M:=by
 simp only [ofM,List.mem_map,List.mem_filter,beq_iff_eq]
 constructor
 ·
  rintro ⟨m,⟨hm,rfl⟩,rfl⟩; exact hm
 ·
  intro h; exact ⟨_,⟨h,rfl⟩,rfl⟩
theorem rmM_mem {M:List qX} {n:List UInt8} {m:qX}:m∈rmM M n↔m∈M∧m.2≠n:=by
 unfold rmM
 rw [Jp,YT,ofM_mem]
 constructor
 ·
  rintro ⟨h,h1⟩
  refine ⟨h,fun e=>?_⟩
  exact h1 (by rw [← e]; exact h) e
 ·
  rintro ⟨h,h1⟩; exact ⟨h,fun _=>h1⟩

structure uu (S:zn) (N:List (List UInt8)) (M:List qX):Prop where
 names:N=zc S
 mem:∀ g n,(g,n)∈M↔vP S g n=true

section
variable {S:zn} {N:List (List UInt8)} {M:List qX} {k:Nat}
theorem uu.nil:uu [] [] []:=⟨rfl,fun _ _=>by simp [vP,Vm,qe,zz]⟩
theorem uu.has (h:uu S N M) (g:List UInt8):fh N g=zz S g:=by
 rw [Bool.eq_iff_iff,qm,yC,h.names]
theorem uu.len (h:uu S N M):N.length=S.length:=by rw [h.names,xm]

theorem in10_put (hr:zJ S) {g:List UInt8} (hh:zz S g=false) (g' n:List UInt8):vP (yR S g []) g' n=vP S g' n:=by
 rw [Bool.eq_iff_iff,xI (xc hr g []),xI hr]
 constructor
 ·
  rintro ⟨p,hp,rfl,h⟩
  rcases yM.1 hp with rfl | ⟨hp,_⟩
  ·
   cases h
  ·
   exact ⟨p,hp,rfl,h⟩
 ·
  rintro ⟨p,hp,rfl,h⟩
  exact ⟨p,yM.2 (.inr ⟨hp,fun e=>by rw [jS] at hh; exact hh (by rw [← e]; exact List.mem_map.2 ⟨p,hp,rfl⟩)⟩),rfl,h⟩
theorem in10_del (hr:zJ S) (g g' n:List UInt8):vP (xF S g) g' n=true↔vP S g' n=true∧g'≠g:=by
 rw [xI (yo hr g),xI hr]
 constructor
 ·
  rintro ⟨p,hp,rfl,h⟩
  obtain ⟨h1,h2⟩:=yu.1 hp
  exact ⟨⟨p,h1,rfl,h⟩,h2⟩
 ·
  rintro ⟨⟨p,hp,rfl,h⟩,h2⟩
  exact ⟨p,yu.2 ⟨hp,h2⟩,rfl,h⟩
theorem in10_upd (hr:zJ S) (f:zI→zI) (g g' n:List UInt8):vP (Y6 f S g) g' n=true↔∃ p∈S,p.1=g'∧zz (if g'=g then f p.2 else p.2) n=true:=by
 rw [xI (X5 hr f g)]
 constructor
 ·
  rintro ⟨q,hq,rfl,h⟩
  obtain ⟨p,hp,rfl⟩:=List.mem_map.1 hq
  refine ⟨p,hp,?_⟩
  by_cases e:p.1=g
  ·
   simp only [e,if_true] at h ⊢; exact ⟨trivial,h⟩
  ·
   simp only [e,if_false] at h ⊢; exact ⟨trivial,h⟩
 ·
  rintro ⟨p,hp,rfl,h⟩
  refine ⟨_,List.mem_map.2 ⟨p,hp,rfl⟩,?_⟩
  by_cases e:p.1=g
  ·
   simp only [e,if_true] at h ⊢; exact ⟨trivial,h⟩
  ·
   simp only [e,if_false] at h ⊢; exact ⟨trivial,h⟩
theorem Qs (hr:zJ S) (f:zI→zI) (g n:List UInt8):vP (S.map fun p=>(p.1,f p.2)) g n=true↔∃ p∈S,p.1=g∧zz (f p.2) n=true:=by
 rw [xI (xH hr (uk f S))]
 constructor
 ·
  rintro ⟨q,hq,rfl,h⟩
  obtain ⟨p,hp,rfl⟩:=List.mem_map.1 hq
  exact ⟨p,hp,rfl,h⟩
 ·
  rintro ⟨p,hp,rfl,h⟩
  exact ⟨_,List.mem_map.2 ⟨p,hp,rfl⟩,rfl,h⟩

theorem U4 {g:List UInt8} (h:qv S g=0):zh g=true∧zz S g=false∧S.length<6:=by
 unfold qv at h
 split at h
 case isFalse=>cases h
 case isTrue hn =>
 split at h
 ·
  cases h
 ·
  rename_i hh
  split at h
  ·
   cases h
  ·
   exact ⟨hn,by simpa using hh,by omega⟩
theorem qo {g:List UInt8} {l:List (List UInt8)} (h:zV S g l=0):zh g=true∧l.all zh=true∧zz S g=true:=by
 unfold zV at h
 split at h
 case isFalse=>cases h
 case isTrue hn =>
 split at h
 ·
  rename_i hh
  simp only [Bool.and_eq_true] at hn
  exact ⟨hn.1,hn.2,hh⟩
 ·
  cases h
theorem joE10_zero {g n:List UInt8} (h:qw S g n=0):zV S g [n]=0∧vP S g n=false:=by
 unfold qw at h
 split at h
 case isFalse hf=>exact absurd h hf
 case isTrue hf =>
 split at h
 ·
  cases h
 ·
  rename_i hi; exact ⟨hf,by simpa using hi⟩
theorem reE10_zero {o n:List UInt8} (h:Z4 S o n=0):zh n=true∧(n≠o→yS S n=[]):=by
 unfold Z4 at h
 split at h
 case isFalse=>cases h
 case isTrue hn =>
 split at h
 ·
  cases h
 ·
  rename_i hi
  refine ⟨hn,fun e=>?_⟩
  by_cases e2:yS S n=[]
  ·
   exact e2
  ·
   exact absurd ⟨e,e2⟩ hi

theorem uu.make (h:uu S N M) (hg:zC S k) {g:List UInt8} (he:qv S g=0):uu (jg S g) (UJ (N++[g])) M:=by
 obtain ⟨hn,hh,h6⟩:=U4 he
 unfold jg
 rw [if_pos he]
 refine ⟨sortT_eq (xc hg.rise g []).names fun x=>?_,fun g' n=>by rw [h.mem,in10_put hg.rise hh]⟩
 rw [Jw,h.names]
 simp [or_comm]
theorem uu.drop (h:uu S N M) (hg:zC S k) {g:List UInt8} (he:uW S g=0):uu (fF S g) (QB N g) (dropM M g):=by
 unfold fF
 rw [if_pos he]
 refine ⟨ui ?_ (yo hg.rise g).names fun x=>?_,fun g' n=>?_⟩
 ·
  rw [h.names]; exact hg.rise.names.filter _
 ·
  rw [Jx,h.names]; simp [QB]
 ·
  rw [in10_del hg.rise,← h.mem]
  simp [dropM]
theorem uu.join (h:uu S N M) (hg:zC S k) {g n:List UInt8} (he:qw S g n=0):uu (qQ S g n) N (M++[(g,n)]):=by
 obtain ⟨hf,hi⟩:=joE10_zero he
 obtain ⟨_,_,hh⟩:=qo hf
 unfold qQ
 rw [if_pos he]
 refine ⟨by rw [h.names,qC],fun g' n'=>?_⟩
 rw [in10_upd hg.rise,List.mem_append,h.mem,xI hg.rise,List.mem_singleton]
 constructor
 ·
  rintro (⟨p,hp,rfl,h'⟩ | e)
  ·
   refine ⟨p,hp,rfl,?_⟩
   split
   ·
    exact uG.2 (.inr h')
   ·
    exact h'
  ·
   injection e with e1 e2
   subst e1 e2
   obtain ⟨p,hp,e⟩:=vf.1 hh
   exact ⟨p,hp,e,by simp [uG]⟩
 ·
  rintro ⟨p,hp,rfl,h'⟩
  by_cases e:p.1=g
  ·
   rw [if_pos e] at h'
   rcases uG.1 h' with h' | h'
   ·
    right; rw [e,h']
   ·
    exact .inl ⟨p,hp,rfl,h'⟩
  ·
   rw [if_neg e] at h'
   exact .inl ⟨p,hp,rfl,h'⟩
theorem uu.leave (h:uu S N M) (hg:zC S k) {g n:List UInt8} (he:ZM S g n=0):uu (ZL S g n) N (outM M g n):=by
 unfold ZL
 rw [if_pos he]
 refine ⟨by rw [h.names,qC],fun g' n'=>?_⟩
 rw [in10_upd hg.rise,UW,h.mem,xI hg.rise]
 constructor
 ·
  rintro ⟨⟨p,hp,rfl,h'⟩,h2⟩
  refine ⟨p,hp,rfl,?_⟩
  split
  ·
   rename_i e; exact uH.2 ⟨h',h2 e⟩
  ·
   exact h'
 ·
  rintro ⟨p,hp,rfl,h'⟩
  by_cases e:p.1=g
  ·
   rw [if_pos e] at h'
   have:=uH.1 h'
   exact ⟨⟨p,hp,rfl,this.1⟩,fun _=>this.2⟩
  ·
   rw [if_neg e] at h'
   exact ⟨⟨p,hp,rfl,h'⟩,fun e'=>absurd e' e⟩
theorem uu.remove (h:uu S N M) (hg:zC S k) (n:List UInt8):uu (qN S n) N (rmM M n):=by
 refine ⟨by rw [h.names]; exact (uk _ S).symm,fun g' n'=>?_⟩
 unfold qN
 rw [Qs hg.rise (fun l=>xF l n),rmM_mem,h.mem,xI hg.rise]
 constructor
 ·
  rintro ⟨⟨p,hp,rfl,h'⟩,h2⟩; exact ⟨p,hp,rfl,uH.2 ⟨h',h2⟩⟩
 ·
  rintro ⟨p,hp,rfl,h'⟩
  have:=uH.1 h'
  exact ⟨⟨p,hp,rfl,this.1⟩,this.2⟩
theorem X8 {o n x:List UInt8} {l:zI}:zz (fZ o n l) x=true↔(zz l o=true∧(x=n∨(zz l x=true∧x≠o)))∨(zz l o=false∧zz l x=true):=by
 unfold fZ
 cases ho:zz l o
 ·
  simp
 ·
  simp [uG,uH]
theorem uu.rename (h:uu S N M) (hg:zC S k) {o n:List UInt8} (he:Z4 S o n=0):uu (ZC S o n) N (renM M o n):=by
 obtain ⟨hn,hne⟩:=reE10_zero he
 unfold ZC
 rw [if_pos he]
 refine ⟨by rw [h.names]; exact (uk _ S).symm,fun g' n'=>?_⟩
 rw [Qs hg.rise (fZ o n)]
 simp only [renM,List.mem_map]
 constructor
 ·
  rintro ⟨m,hm,e⟩
  obtain ⟨a,b⟩:=m
  obtain ⟨p,hp,e1,h'⟩:=(xI hg.rise).1 ((h.mem a b).1 hm)
  by_cases eb:b=o
  ·
   subst eb
   simp only [beq_self_eq_true,if_true] at e
   injection e with e2 e3
   subst e2 e3
   exact ⟨p,hp,e1,X8.2 (.inl ⟨h',.inl rfl⟩)⟩
  ·
   have:(b == o)=false:=by simpa using eb
   simp only [this,Bool.false_eq_true,if_false] at e
   injection e with e2 e3
   subst e2 e3
   refine ⟨p,hp,e1,X8.2 ?_⟩
   cases ho:zz p.2 o
   ·
    exact .inr ⟨rfl,h'⟩
   ·
    exact .inl ⟨rfl,.inr ⟨h',eb⟩⟩
 ·
  rintro ⟨p,hp,rfl,h'⟩
  rcases X8.1 h' with ⟨ho,e | ⟨hx,hxo⟩⟩ | ⟨ho,hx⟩
  ·
   subst e
   exact ⟨(p.1,o),(h.mem _ _).2 ((xI hg.rise).2 ⟨p,hp,rfl,ho⟩),by simp⟩
  ·
   exact ⟨(p.1,n'),(h.mem _ _).2 ((xI hg.rise).2 ⟨p,hp,rfl,hx⟩),by simp [hxo]⟩
  ·
   refine ⟨(p.1,n'),(h.mem _ _).2 ((xI hg.rise).2 ⟨p,hp,rfl,hx⟩),?_⟩
   have:n'≠o:=fun e=>by rw [e,ho] at hx; cases hx
   simp [this]

/-! ### what the laws ask -/
theorem removed10 (hr:zJ S) (n:List UInt8):yS (qN S n) n=[]:=by
 refine List.eq_nil_iff_forall_not_mem.2 fun g hm=>?_
 unfold qN at hm
 rw [xd (xH hr (uk (fun l:zI=>xF l n) S)),Qs hr (fun l=>xF l n)] at hm
 obtain ⟨p,hp,_,h⟩:=hm
 exact (uH.1 h).2 rfl
theorem Xs (g n:List UInt8):zc (qQ S g n)=zc S:=by
 unfold qQ
 split
 ·
  exact qC _ S g
 ·
  rfl
end
end Go.Proofs.YteegkoicalbkbaaGreatDoor
namespace Go.Proofs.YteegkoicalbkbaaGreatDoor
open Go.RowKit Go.Maps

theorem vI {H:Type} {w:World} {P:Program} {k:TypeId} {R:Value→Option (DataW H×List MemPlace)} {b n:Nat} {D:DataW H} (h:w.ownsMap P k R b n D):w.ownsMap P k R b (Maps.size D) D:=by
 obtain ⟨es,clock,hb,F,_,rfl⟩:=h
 have e1:Maps.size (DataW.map ((es.toList.map (WideElems.rg P k R)).foldr DataW.insert []))=es.size:=by simp [Maps.size,length_sorted]
 exact ⟨es,clock,hb,F,by rw [e1]; exact Nat.le_refl _,rfl⟩
theorem xM:Keyed Tryz.prog 9:=string_keyed Tryz.underlying9
theorem Zb (s:ByteArray) (h:s.size≤maxLen):keyOf Tryz.prog 9 (.string s)=some (.string s.data.toList):=WideMaps.keyOf_string_mk Tryz.underlying9 h
theorem zerob10 (w:World):(zeroValue 4).run Tryz.prog w=.ok (.bool false) w:=by kernel_rfl
theorem Uv (w:World):(zeroValue 274).run Tryz.prog w=.ok (.map none) w:=by kernel_rfl
def yl (l:List UInt8):ByteArray:=⟨l.toArray⟩
theorem zS (l:List UInt8):(yl l).data.toList=l:=by simp [yl]
theorem uN (s:ByteArray):yl s.data.toList=s:=by simp [yl]
theorem xT (l:List UInt8):(yl l).size=l.length:=by rw [← zx,zS]

/-! ### a set of names -/
def et10:Unit→DataW Unit:=fun _=>.lit (.bool true)
def zY (w:World) (b:Nat) (L:zI):Prop:=w.ownsMap Tryz.prog 9 (plainElem Tryz.prog 4) b L.length (uK et10 L)
theorem zY.of {w:World} {b n:Nat} {L:zI} (h:w.ownsMap Tryz.prog 9 (plainElem Tryz.prog 4) b n (uK et10 L)):zY w b L:=by
 have:=vI h
 rwa [vK] at this
theorem zY.kept {w w':World} {b:Nat} {L:zI} (h:zY w b L) (hb:w'.heap[b]? = w.heap[b]?):zY w' b L:=by
 obtain ⟨es,clock,h1,r⟩:=h
 exact ⟨es,clock,hb.trans h1,r⟩
theorem jr {v:Value} {z:DataW Unit×List MemPlace} (h:plainElem Tryz.prog 4 v=some z):∃ c,v=.bool c∧z=(.lit (.bool c),[]):=by
 cases v <;> simp [plainElem,Tryz.underlying4] at h
 exact ⟨_,rfl,h.symm⟩
theorem QQ {V:Type} {e:V→DataW Unit} {L:yK V} {k:List UInt8} (z:DataW Unit) (h:qe L k=none):(uK e L).atKey (.string k) z=z:=by
 rw [datV_at,h]
theorem YI {V:Type} {e:V→DataW Unit} {L:yK V} {k:List UInt8} {v:V} (z:DataW Unit) (h:qe L k=some v):(uK e L).atKey (.string k) z=e v:=by
 rw [datV_at,h]
theorem at_unit10 (L:zI) (k:List UInt8):(uK et10 L).atKey (.string k) (.lit (.bool false))=.lit (.bool (zz L k)):=by
 cases h:qe L k with
 | none=>rw [QQ _ h,qF.1 h]
 | some v =>
  have:zz L k=true:=by
   cases hh:zz L k
   ·
    rw [qF.2 hh] at h; cases h
   ·
    rfl
  rw [YI _ h,this]; rfl
theorem has10 {w:World} {b:Nat} {L:zI} (h:zY w b L) (s:ByteArray) (hs:s.size≤maxLen) :
  (Instr.lookup 274 (.map (some b)) (.string s) false).run Tryz.prog w=.ok (.bool (zz L s.data.toList)) w:=by
 obtain ⟨v,ps,hrun,hv⟩:=h.lookup xM Tryz.underlying274 (zerob10 w) (plainElem_bool (H:=Unit) Tryz.underlying4 false) (Zb s hs)
 obtain ⟨c,rfl,hc⟩:=jr hv
 rw [hrun]
 have hc':(uK et10 L).atKey (.string s.data.toList) (.lit (.bool false))=.lit (.bool c):=congrArg Prod.fst hc
 rw [at_unit10] at hc'
 have:zz L s.data.toList=c:=by simpa using hc'
 rw [this]
theorem drop10 {w:World} {b:Nat} {L:zI} (h:zY w b L) (s:ByteArray) (hs:s.size≤maxLen) (ty:TypeId) :
  ∃ w',(Builtin.delete_ #[274,9] ty #[.map (some b),.string s]).run Tryz.prog w=.ok (.tuple #[]) w'∧zY w' b (xF L s.data.toList)∧w.mapTurned w' b:=by
 obtain ⟨w',hrun,hown,ht⟩:=h.drop xM Tryz.underlying274 (Zb s hs) ty
 rw [QF] at hown
 exact ⟨w',hrun,zY.of hown,ht⟩
theorem add10 {w:World} {b:Nat} {L:zI} (h:zY w b L) (hf:L.length≤1000) (s:ByteArray) (hs:s.size≤maxLen) :
  ∃ w',(Instr.mapUpdate 274 (.map (some b)) (.string s) (.bool true)).run Tryz.prog w=.ok () w'∧zY w' b (yR L s.data.toList ())∧w.mapTurned w' b:=by
 obtain ⟨w',hrun,hown,ht⟩:=h.store xM Tryz.underlying274 (Nat.lt_of_le_of_lt hf (by decide)) (Zb s hs) (plainElem_bool (H:=Unit) Tryz.underlying4 true)
 have e:uK et10 (yR L s.data.toList ())=(uK et10 L).put (.string s.data.toList) (et10 ()):=(QD et10 L _ ()).symm
 exact ⟨w',hrun,zY.of (by rw [e]; exact hown),ht⟩
theorem set10_made (w:World):zY (w.alloc (.map #[] 0)) w.heap.size [] :=
 zY.of (n:=0) (World.ownsMap_made (H:=Unit) w Tryz.prog 9 (plainElem Tryz.prog 4))

/-! ### groups -/
abbrev zq:=yK (Nat×zI)
def R10:Value→Option (DataW Unit×List MemPlace)
 | .map (some b)=>some (.lit (.int .i64 b),[])
 | .map none=>some (.nil,[])
 | _=>none
def FR:Nat×zI→DataW Unit:=fun p=>.lit (.int .i64 p.1)
def z8 (T:zq):zn:=T.map fun p=>(p.1,p.2.2)
def uX (T:zq) (g:List UInt8):Option Nat:=(qe T g).map (·.1)
def ob10:Option Nat→DataW Unit
 | some b=>.lit (.int .i64 b)
 | none=>.nil
theorem Q1 {o o':Option Nat} (h:ob10 o=ob10 o'):o=o':=by
 cases o with
 | none=>cases o' with
  | none=>rfl
  | some b=>cases h
 | some a=>cases o' with
  | none=>cases h
  | some b =>
   unfold ob10 at h
   injection h with h
   injection h with _ h
   rw [Int.ofNat.inj h]
theorem at_blk10 (T:zq) (k:List UInt8):(uK FR T).atKey (.string k) .nil=ob10 (uX T k):=by
 unfold uX
 cases h:qe T k with
 | none=>rw [QQ _ h]; rfl
 | some v=>rw [YI _ h]; rfl
theorem US {v:Value} {z:DataW Unit×List MemPlace} (h:R10 v=some z):∃ o,v=.map o∧z.1=ob10 o:=by
 unfold R10 at h
 split at h
 ·
  cases h; exact ⟨_,rfl,rfl⟩
 ·
  cases h; exact ⟨_,rfl,rfl⟩
 ·
  cases h

structure zO (w:World) (B:Nat) (p:Option Nat) (T:zq):Prop where
 blk:w.heap[B]? = some (.cells #[.map p] 278 (0,0))
 nil:p=none→T=[]
 map:∀ b,p=some b→w.ownsMap Tryz.prog 9 R10 b T.length (uK FR T)
 sets:∀ x∈T,zY w x.2.1 x.2.2
 one:∀ x∈T,∀ y∈T,x.2.1=y.2.1→x.1=y.1
 off:∀ x∈T,p≠some x.2.1
 rise:zJ T

theorem zL {w:World} {b B n:Nat} {R:Value→Option (DataW Unit×List MemPlace)} {D:DataW Unit} {c:Array Value} {T:TypeId} {fr:Nat×Nat} (hm:w.ownsMap Tryz.prog 9 R b n D) (hB:w.heap[B]? = some (.cells c T fr)):b≠B:=fun e=>by
 obtain ⟨es,clock,h1,_⟩:=hm
 subst e
 rw [hB] at h1
 cases h1
section
variable {w w':World} {B:Nat} {p:Option Nat} {T:zq}
theorem zO.lt (h:zO w B p T):B<w.heap.size:=(Array.getElem?_eq_some_iff.1 h.blk).1
theorem zO.mlt (h:zO w B p T):∀ b,p=some b→b<w.heap.size:=fun b hb=>(h.map b hb).lt
theorem zO.slt (h:zO w B p T):∀ x∈T,x.2.1<w.heap.size:=fun x hx=>World.ownsMap.lt (h.sets x hx)
theorem zO.cell (h:zO w B p T):w.cell? ⟨B,0,none⟩=some (.map p):=by simp [World.cell?,h.blk]
theorem zO.frozen (h:zO w B p T):w.frozen? ⟨B,0,none⟩=false:=by simp [World.frozen?,h.blk]
theorem zO.mne (h:zO w B p T):∀ b,p=some b→b≠B:=fun b hb=>zL (h.map b hb) h.blk
theorem zO.sne (h:zO w B p T):∀ x∈T,x.2.1≠B:=fun x hx=>zL (h.sets x hx) h.blk
theorem zO.turns {S:Nat→Prop} (h:zO w B p T) (ht:zg S w w') (hB:¬ S B) (hp:∀ b,p=some b→¬ S b) (hs:∀ x∈T,¬ S x.2.1):zO w' B p T:=by
 refine ⟨(ht.block B h.lt hB).trans h.blk,h.nil,fun b hb=>?_,fun x hx=>(h.sets x hx).kept (ht.block _ (h.slt x hx) (hs x hx)),h.one,h.off,h.rise⟩
 obtain ⟨es,clock,h1,r⟩:=h.map b hb
 exact ⟨es,clock,(ht.block b (h.mlt b hb) (hp b hb)).trans h1,r⟩
theorem zO.later (h:zO w B p T) (hb:Below w.heap.size w w'):zO w' B p T:=h.turns (zg.of_below hb (fun _=>False)) (fun f=>f) (fun _ _ f=>f) (fun _ _ f=>f)

theorem look10 (h:zO w B p T) (s:ByteArray) (hs:s.size≤maxLen) :
  (Instr.lookup 276 (.map p) (.string s) true).run Tryz.prog w=.ok (.tuple #[.map (uX T s.data.toList),.bool (zz T s.data.toList)]) w:=by
 cases p with
 | none =>
  have hL:=h.nil rfl
  subst hL
  exact Maps.look_nil (P:=Tryz.prog) (w:=w) (t:=276) true xM Tryz.underlying276 (Uv w) (Zb s hs)
 | some b =>
  obtain ⟨v,ps,hrun,hv⟩:=(h.map b rfl).look_ok xM Tryz.underlying276 (Uv w) (show R10 (.map none)=some (.nil,[]) from rfl) (Zb s hs)
  obtain ⟨o,rfl,ho⟩:=US hv
  rw [hrun,YH]
  have ho':(uK FR T).atKey (.string s.data.toList) .nil=ob10 o:=ho
  rw [at_blk10] at ho'
  rw [Q1 ho']
theorem Xo (h:zO w B p T) (s:ByteArray) (hs:s.size≤maxLen) :
  (Instr.lookup 276 (.map p) (.string s) false).run Tryz.prog w=.ok (.map (uX T s.data.toList)) w:=by
 cases p with
 | none =>
  have hL:=h.nil rfl
  subst hL
  exact Maps.look_nil (P:=Tryz.prog) (w:=w) (t:=276) false xM Tryz.underlying276 (Uv w) (Zb s hs)
 | some b =>
  obtain ⟨v,ps,hrun,hv⟩:=(h.map b rfl).lookup xM Tryz.underlying276 (Uv w) (show R10 (.map none)=some (.nil,[]) from rfl) (Zb s hs)
  obtain ⟨o,rfl,ho⟩:=US hv
  rw [hrun]
  have ho':(uK FR T).atKey (.string s.data.toList) .nil=ob10 o:=ho
  rw [at_blk10] at ho'
  rw [Q1 ho']
theorem len10 (h:zO w B p T) (ty:TypeId):(Builtin.len_ #[276] ty #[.map p]).run Tryz.prog w=.ok (.int .i64 T.length) w:=by
 cases p with
 | none =>
  have hL:=h.nil rfl
  subst hL
  exact Maps.len_nil Tryz.underlying276 ty
 | some b =>
  have:=(h.map b rfl).len (t:=276) Tryz.underlying276 ty
  rwa [vK] at this
theorem nilmap10 (w:World) (p:Option Nat):(binOp .eql 276 (.map p) (.map none)).run Tryz.prog w=.ok (.bool p.isNone) w :=
 run_eql_map_nil_sl w 276 _ _ p Tryz.underlying276
end

theorem vV (T:zq) (k:List UInt8):zz (z8 T) k=zz T k:=map_hasV (fun v:Nat×zI=>v.2) T k
theorem vc (T:zq):zc (z8 T)=zc T:=uk (fun v:Nat×zI=>v.2) T
theorem uR (T:zq):(z8 T).length=T.length:=List.length_map _
theorem plain10_put (T:zq) (k:List UInt8) (v:Nat×zI):z8 (yR T k v)=yR (z8 T) k v.2:=map_putV (fun v:Nat×zI=>v.2) T k v
theorem plain10_del (T:zq) (k:List UInt8):z8 (xF T k)=xF (z8 T) k:=map_delV (fun v:Nat×zI=>v.2) T k
theorem plain10_upd (f:zI→zI) (T:zq) (k:List UInt8):z8 (Y6 (fun v=>(v.1,f v.2)) T k)=Y6 f (z8 T) k:=by
 unfold z8 Y6
 rw [List.map_map,List.map_map]
 refine List.map_congr_left fun x _=>?_
 show (let y:=if x.1=k then (x.1,(x.2.1,f x.2.2)) else x; (y.1,y.2.2))=if x.1=k then (x.1,f x.2.2) else (x.1,x.2.2)
 by_cases e:x.1=k
 ·
  rw [if_pos e,if_pos e]
 ·
  rw [if_neg e,if_neg e]
theorem fw {T:zq} (hr:zJ T) {x:List UInt8×(Nat×zI)} (hx:x∈T):Vm (z8 T) x.1=x.2.2:=by
 have h1:zJ (z8 T):=xH hr (vc T)
 have h2:(x.1,x.2.2)∈z8 T:=List.mem_map.2 ⟨x,hx,rfl⟩
 exact ql h1 h2
theorem vB {T:zq} (hr:zJ T) {x:List UInt8×(Nat×zI)} (hx:x∈T):uX T x.1=some x.2.1:=by
 unfold uX
 rw [(ye hr).2 (show (x.1,x.2)∈T from hx)]; rfl
theorem Um {T:zq} {k:List UInt8} (h:zz T k=false):uX T k=none:=by
 unfold uX
 rw [qF.2 h]; rfl
theorem fP {V:Type} {f:V→V} {L:yK V} {k:List UInt8} {p:List UInt8×V} (h:p∈Y6 f L k):∃ q∈L,p=(q.1,if q.1=k then f q.2 else q.2):=by
 obtain ⟨q,hq,rfl⟩:=List.mem_map.1 h
 refine ⟨q,hq,?_⟩
 by_cases e:q.1=k
 ·
  rw [if_pos e,if_pos e]
 ·
  rw [if_neg e,if_neg e]
theorem zO.turned {w w':World} {B:Nat} {p:Option Nat} {T:zq} (h:zO w B p T) {x:List UInt8×(Nat×zI)} (hx:x∈T) (f:zI→zI) (hs:zY w' x.2.1 (f x.2.2)) (ht:zg (fun i=>i=x.2.1) w w'):zO w' B p (Y6 (fun v=>(v.1,f v.2)) T x.1):=by
 have hbb:∀ q∈T,(if q.1=x.1 then (q.2.1,f q.2.2) else q.2).1=q.2.1:=fun q _=>by split <;> rfl
 refine ⟨(ht.block B h.lt (fun e=>h.sne x hx e.symm)).trans h.blk,fun e=>?_,fun b hb=>?_,fun y hy=>?_,fun y hy z hz e=>?_,fun y hy=>?_,X5 h.rise _ _⟩
 ·
  rw [h.nil e] at hx; cases hx
 ·
  have e1:uK FR (Y6 (fun v=>(v.1,f v.2)) T x.1)=uK FR T:=datV_upd (e:=FR) (f:=fun v=>(v.1,f v.2)) (fun _=>rfl) T x.1
  rw [e1,show (Y6 (fun v:Nat×zI=>(v.1,f v.2)) T x.1).length=T.length from List.length_map _]
  obtain ⟨es,clock,h1,r⟩:=h.map b hb
  exact ⟨es,clock,(ht.block b (h.mlt b hb) (fun e=>h.off x hx (by rw [hb,e]))).trans h1,r⟩
 ·
  obtain ⟨q,hq,rfl⟩:=fP hy
  by_cases e:q.1=x.1
  ·
   have:=Jg h.rise hq hx e
   subst this
   simp only [if_true]
   exact hs
  ·
   simp only [e,if_false]
   exact (h.sets q hq).kept (ht.block _ (h.slt q hq) (fun e'=>e (h.one q hq x hx e')))
 ·
  obtain ⟨q,hq,rfl⟩:=fP hy
  obtain ⟨r,hr,rfl⟩:=fP hz
  simp only [hbb q hq,hbb r hr] at e
  exact h.one q hq r hr e
 ·
  obtain ⟨q,hq,rfl⟩:=fP hy
  simp only [hbb q hq]
  exact h.off q hq

def Turn10 (B:Nat) (p:Option Nat) (T:zq) (w w':World):Prop:=zg (fun i=>i=B∨p=some i∨∃ x∈T,x.2.1=i) w w'
def zN (w:World) (B:Nat) (p:Option Nat) (T:zq) (S':zn) (w':World):Prop :=
 ∃ p' T',zO w' B p' T'∧z8 T'=S'∧(∀ b,p'=some b→p=some b∨w.heap.size≤b)∧(∀ x∈T',(∃ y∈T,y.2.1=x.2.1)∨w.heap.size≤x.2.1)∧Turn10 B p T w w'
theorem zN.still {w w':World} {B:Nat} {p:Option Nat} {T:zq} (h:zO w B p T) (hb:Below w.heap.size w w'):zN w B p T (z8 T) w' :=
 ⟨p,T,h.later hb,rfl,fun _ e=>.inl e,fun x hx=>.inl ⟨x,hx,rfl⟩,zg.of_below hb _⟩
theorem zN.ahead {w w1 w':World} {B:Nat} {p:Option Nat} {T:zq} {S':zn} (hb:Below w.heap.size w w1) (h:zN w1 B p T S' w'):zN w B p T S' w':=by
 obtain ⟨p',T',hd,hS,hp,hx,ht⟩:=h
 exact ⟨p',T',hd,hS,fun b e=>(hp b e).imp id (fun h=>Nat.le_trans hb.size h),fun x hh=>(hx x hh).imp id (fun h=>Nat.le_trans hb.size h),(zg.of_below hb _).next ht (fun i _ h=>h)⟩
theorem zN.behind {w w1 w':World} {B:Nat} {p:Option Nat} {T:zq} {S':zn} (h:zN w B p T S' w1) (hb:Below w1.heap.size w1 w'):zN w B p T S' w':=by
 obtain ⟨p',T',hd,hS,hp,hx,ht⟩:=h
 exact ⟨p',T',hd.later hb,hS,hp,hx,zg.next ht (zg.of_below hb (fun _=>False)) (fun _ _ f=>f.elim)⟩

set_option maxRecDepth 100000 in
theorem XR (s:ByteArray) (w:World) (hs:s.size≤9223372036854775807) :
  Calls Tryz.prog 223 #[.string s] w (yE (!zh s.data.toList) w):=by
 have HN:=za (zR s w hs)
 cases hb:zh s.data.toList with
 | false =>
  rw [hb] at HN
  have HN2:Hid (Calls Tryz.prog 159 #[.string s] w (yz 10 w)):=HN.out
  clear HN hb
  go_enter Tryz.func223,Tryz.ntmps223
  go_wp2_with fail
  with_reducible refine HN2.out.mono ?_
  rintro e w1 ⟨rfl,hb⟩
  have HB:=za hb
  clear hb HN2
  go_wp2
  go_ret
  exact ⟨rfl,HB.out⟩
 | true =>
  rw [hb] at HN
  have HN2:Hid (Calls Tryz.prog 159 #[.string s] w (yz 0 w)):=HN.out
  clear HN hb
  go_enter Tryz.func223,Tryz.ntmps223
  go_wp2_with fail
  with_reducible refine HN2.out.mono ?_
  rintro e w1 ⟨rfl,hb⟩
  have HB:=za hb
  clear hb HN2
  go_wp2
  go_ret
  exact ⟨rfl,HB.out⟩

set_option maxRecDepth 100000 in
theorem JN (fv:Value) (w:World):Calls Tryz.prog 238 #[.slice none 0 0,fv] w fun e w'=>e=.returned (.int .i64 (-1))∧w'=w:=by
 go_enter Tryz.func238,Tryz.ntmps238
 go_wp2
 refine wp_loop_rounds 1 ?_
 rw [rounds_succ]
 go_wp2
 go_ret
 exact ⟨rfl,rfl⟩
set_option maxRecDepth 100000 in
theorem index10_one (g:Nat) (B:Nat) (s:ByteArray) (b:Bool) (w:World) (eg:∀ args w,(callFunc g args).run Tryz.prog w=.ok (.enter g args) w) (hc:w.cell? ⟨B,0,none⟩=some (.string s)) (hp:Calls Tryz.prog g #[.string s] w (yE b w)) :
  Calls Tryz.prog 238 #[.slice (some ⟨B,0,none⟩) 1 1,.func (.func g) #[] #[]] w fun e w'=>e=.returned (.int .i64 (if b then 0 else -1))∧Below w.heap.size w w':=by
 have HP:=za hp
 clear hp
 cases b with
 | true =>
  go_enter Tryz.func238,Tryz.ntmps238
  go_wp2
  refine wp_loop_rounds 1 ?_
  rw [rounds_succ]
  go_wp2_with (go_at_fn g; (with_reducible refine HP.out.mono ?_); rintro e w1 ⟨rfl,hb⟩; have HB:=za hb; clear hb)
  go_ret
  exact ⟨rfl,HB.out⟩
 | false =>
  go_enter Tryz.func238,Tryz.ntmps238
  go_wp2
  refine wp_loop_rounds 2 ?_
  rw [rounds_succ]
  go_wp2_with (go_at_fn g; (with_reducible refine HP.out.mono ?_); rintro e w1 ⟨rfl,hb⟩; have HB:=za hb; clear hb)
  rw [rounds_succ]
  go_wp2
  go_ret
  exact ⟨rfl,HB.out⟩
set_option maxRecDepth 100000 in
theorem XL (fv:Value) (w:World):Calls Tryz.prog 222 #[.slice none 0 0,fv] w fun e w'=>e=.returned (.bool false)∧w'=w:=by
 have HP:=za (JN fv w)
 go_enter Tryz.func222,Tryz.ntmps222
 go_wp2_with fail
 with_reducible refine HP.out.mono ?_
 rintro e w1 ⟨rfl,rfl⟩
 go_wp2
 go_ret
 exact ⟨rfl,rfl⟩
set_option maxRecDepth 100000 in
theorem Vz (g:Nat) (B:Nat) (s:ByteArray) (b:Bool) (w:World) (eg:∀ args w,(callFunc g args).run Tryz.prog w=.ok (.enter g args) w) (hc:w.cell? ⟨B,0,none⟩=some (.string s)) (hp:Calls Tryz.prog g #[.string s] w (yE b w)) :
  Calls Tryz.prog 222 #[.slice (some ⟨B,0,none⟩) 1 1,.func (.func g) #[] #[]] w (yE b w):=by
 have HP:=za (index10_one g B s b w eg hc hp)
 clear hp hc
 cases b with
 | true =>
  go_enter Tryz.func222,Tryz.ntmps222
  go_wp2_with fail
  with_reducible refine HP.out.mono ?_
  rintro e w1 ⟨rfl,hb⟩
  have HB:=za hb
  clear hb HP
  go_wp2
  go_ret
  exact ⟨rfl,HB.out⟩
 | false =>
  go_enter Tryz.func222,Tryz.ntmps222
  go_wp2_with fail
  with_reducible refine HP.out.mono ?_
  rintro e w1 ⟨rfl,hb⟩
  have HB:=za hb
  clear hb HP
  go_wp2
  go_ret
  exact ⟨rfl,HB.out⟩
set_option maxRecDepth 100000 in
theorem Zo (w:World):Calls Tryz.prog 197 #[.slice none 0 0] w fun e w'=>e=.returned (.bool true)∧w'=w:=by
 have HP:=za (XL (.func (.func 223) #[] #[]) w)
 go_enter Tryz.func197,Tryz.ntmps197
 go_wp2_with fail
 with_reducible refine HP.out.mono ?_
 rintro e w1 ⟨rfl,rfl⟩
 go_wp2
 go_ret
 exact ⟨rfl,rfl⟩
set_option maxRecDepth 100000 in
theorem um (B:Nat) (s:ByteArray) (w:World) (hs:s.size≤9223372036854775807) (hc:w.cell? ⟨B,0,none⟩=some (.string s)):Calls Tryz.prog 197 #[.slice (some ⟨B,0,none⟩) 1 1] w (yE (zh s.data.toList) w):=by
 have HP:=za (Vz _ B s _ w (enters_of Tryz.func223 (by kernel_rfl) rfl) hc (XR s w hs))
 clear hc
 generalize zh s.data.toList=b at *
 cases b with
 | true =>
  go_enter Tryz.func197,Tryz.ntmps197
  go_wp2_with fail
  with_reducible refine HP.out.mono ?_
  rintro e w1 ⟨rfl,hb⟩
  have HB:=za hb
  clear hb HP
  go_wp2
  go_ret
  exact ⟨rfl,HB.out⟩
 | false =>
  go_enter Tryz.func197,Tryz.ntmps197
  go_wp2_with fail
  with_reducible refine HP.out.mono ?_
  rintro e w1 ⟨rfl,hb⟩
  have HB:=za hb
  clear hb HP
  go_wp2
  go_ret
  exact ⟨rfl,HB.out⟩

/-! ### has -/
set_option maxRecDepth 100000 in
theorem hasfn_calls (s:ByteArray) (w:World):Calls Tryz.prog 332 #[.string s] w fun e w'=>e=.returned (.func (.func 335) #[] #[.pointer (some ⟨w.heap.size,0,none⟩)])∧w'=w.alloc (.cells #[.string s] 9):=by
 have hmf:=mkf
 go_enter Tryz.func332,Tryz.ntmps332
 go_wp2
 go_ret
 exact ⟨rfl,rfl⟩
set_option maxRecDepth 100000 in
theorem has1_calls (C b:Nat) (L:zI) (s:ByteArray) (w:World) (hs:s.size≤maxLen) (hc:w.cell? ⟨C,0,none⟩=some (.string s)) (h:zY w b L):Calls Tryz.prog 335 #[.map (some b),.pointer (some ⟨C,0,none⟩)] w fun e w'=>e=.returned (.bool (zz L s.data.toList))∧w'=w:=by
 have hl:=has10 h s hs
 generalize zz L s.data.toList=r at *
 clear h
 go_enter Tryz.func335,Tryz.ntmps335
 go_wp2
 go_ret
 exact ⟨rfl,rfl⟩

/-! ### every -/
set_option maxRecDepth 100000 in
theorem Qp (fv:Value) (w:World):Calls Tryz.prog 379 #[.slice none 0 0,fv] w fun e w'=>e=.returned (.int .i64 (-1))∧w'=w:=by
 go_enter Tryz.func379,Tryz.ntmps379
 go_wp2
 refine wp_loop_rounds 1 ?_
 rw [rounds_succ]
 go_wp2
 go_ret
 exact ⟨rfl,rfl⟩
set_option maxRecDepth 100000 in
theorem Yx (fv:Value) (w:World):Calls Tryz.prog 377 #[.slice none 0 0,fv] w fun e w'=>e=.returned (.bool false)∧w'=w:=by
 have HP:=za (Qp fv w)
 go_enter Tryz.func377,Tryz.ntmps377
 go_wp2_with fail
 with_reducible refine HP.out.mono ?_
 rintro e w1 ⟨rfl,rfl⟩
 go_wp2
 go_ret
 exact ⟨rfl,rfl⟩
set_option maxRecDepth 100000 in
theorem everyb_none (c:Bool) (w:World):Calls Tryz.prog 376 #[.bool c,.slice none 0 0] w (yE true w):=by
 have hmf:=mkf
 have HP:Hid (∀ fv W,Calls Tryz.prog 377 #[.slice none 0 0,fv] W fun e w'=>e=.returned (.bool false)∧w'=W):=Yx
 have HB:=za (zb (Below.refl w.heap.size w) (.cells #[.bool c] 4))
 go_enter Tryz.func376,Tryz.ntmps376
 go_wp2_with fail
 with_reducible refine (HP.out _ _).mono ?_
 rintro e w1 ⟨rfl,rfl⟩
 go_wp2
 go_ret
 exact ⟨rfl,HB.out⟩
set_option maxRecDepth 100000 in
theorem Qo (fv:Value) (w:World):Calls Tryz.prog 338 #[.slice none 0 0,fv] w fun e w'=>e=.returned (.int .i64 (-1))∧w'=w:=by
 go_enter Tryz.func338,Tryz.ntmps338
 go_wp2
 refine wp_loop_rounds 1 ?_
 rw [rounds_succ]
 go_wp2
 go_ret
 exact ⟨rfl,rfl⟩
set_option maxRecDepth 100000 in
theorem JM (g:Nat) (B C:Nat) (f:Value) (b:Bool) (w:World) (eg:∀ args w,(callFunc g args).run Tryz.prog w=.ok (.enter g args) w) (hc:w.cell? ⟨B,0,none⟩=some f) (hp:Calls Tryz.prog g #[f,.pointer (some ⟨C,0,none⟩)] w (yE b w)) :
  Calls Tryz.prog 338 #[.slice (some ⟨B,0,none⟩) 1 1,.func (.func g) #[] #[.pointer (some ⟨C,0,none⟩)]] w fun e w'=>e=.returned (.int .i64 (if b then 0 else -1))∧Below w.heap.size w w':=by
 have HP:=za hp
 clear hp
 cases b with
 | true =>
  go_enter Tryz.func338,Tryz.ntmps338
  go_wp2
  refine wp_loop_rounds 1 ?_
  rw [rounds_succ]
  go_wp2_with (go_at_fn g; (with_reducible refine HP.out.mono ?_); rintro e w1 ⟨rfl,hb⟩; have HB:=za hb; clear hb)
  go_ret
  exact ⟨rfl,HB.out⟩
 | false =>
  go_enter Tryz.func338,Tryz.ntmps338
  go_wp2
  refine wp_loop_rounds 2 ?_
  rw [rounds_succ]
  go_wp2_with (go_at_fn g; (with_reducible refine HP.out.mono ?_); rintro e w1 ⟨rfl,hb⟩; have HB:=za hb; clear hb)
  rw [rounds_succ]
  go_wp2
  go_ret
  exact ⟨rfl,HB.out⟩
set_option maxRecDepth 100000 in
theorem Yw (fv:Value) (w:World):Calls Tryz.prog 336 #[.slice none 0 0,fv] w fun e w'=>e=.returned (.bool false)∧w'=w:=by
 have HP:=za (Qo fv w)
 go_enter Tryz.func336,Tryz.ntmps336
 go_wp2_with fail
 with_reducible refine HP.out.mono ?_
 rintro e w1 ⟨rfl,rfl⟩
 go_wp2
 go_ret
 exact ⟨rfl,rfl⟩
set_option maxRecDepth 100000 in
theorem XK (g:Nat) (B C:Nat) (f:Value) (b:Bool) (w:World) (eg:∀ args w,(callFunc g args).run Tryz.prog w=.ok (.enter g args) w) (hc:w.cell? ⟨B,0,none⟩=some f) (hp:Calls Tryz.prog g #[f,.pointer (some ⟨C,0,none⟩)] w (yE b w)) :
  Calls Tryz.prog 336 #[.slice (some ⟨B,0,none⟩) 1 1,.func (.func g) #[] #[.pointer (some ⟨C,0,none⟩)]] w (yE b w):=by
 have HP:=za (JM g B C f b w eg hc hp)
 clear hp hc
 cases b with
 | true =>
  go_enter Tryz.func336,Tryz.ntmps336
  go_wp2_with fail
  with_reducible refine HP.out.mono ?_
  rintro e w1 ⟨rfl,hb⟩
  have HB:=za hb
  clear hb HP
  go_wp2
  go_ret
  exact ⟨rfl,HB.out⟩
 | false =>
  go_enter Tryz.func336,Tryz.ntmps336
  go_wp2_with fail
  with_reducible refine HP.out.mono ?_
  rintro e w1 ⟨rfl,hb⟩
  have HB:=za hb
  clear hb HP
  go_wp2
  go_ret
  exact ⟨rfl,HB.out⟩
set_option maxRecDepth 100000 in
theorem everys_none (p:Option Nat) (w:World):Calls Tryz.prog 334 #[.map p,.slice none 0 0] w (yE true w):=by
 have hmf:=mkf
 have HP:Hid (∀ fv W,Calls Tryz.prog 336 #[.slice none 0 0,fv] W fun e w'=>e=.returned (.bool false)∧w'=W):=Yw
 have HB:=za (zb (Below.refl w.heap.size w) (.cells #[.map p] 274))
 go_enter Tryz.func334,Tryz.ntmps334
 go_wp2_with fail
 with_reducible refine (HP.out _ _).mono ?_
 rintro e w1 ⟨rfl,rfl⟩
 go_wp2
 go_ret
 exact ⟨rfl,HB.out⟩
set_option maxRecDepth 100000 in
theorem Qx (C D b:Nat) (L:zI) (s:ByteArray) (w:World) (hs:s.size≤maxLen) (hC:w.cell? ⟨C,0,none⟩=some (.string s)) (hD:w.cell? ⟨D,0,none⟩=some (.map (some b))) (h:zY w b L) :
  Calls Tryz.prog 337 #[.func (.func 335) #[] #[.pointer (some ⟨C,0,none⟩)],.pointer (some ⟨D,0,none⟩)] w (yE (!zz L s.data.toList) w):=by
 have eg:∀ args w,(callFunc 335 args).run Tryz.prog w=.ok (.enter 335 args) w:=enters_of Tryz.func335 (by kernel_rfl) rfl
 have HP:Hid (Calls Tryz.prog 335 #[.map (some b),.pointer (some ⟨C,0,none⟩)] w (yE (zz L s.data.toList) w)):=(has1_calls C b L s w hs hC h).mono fun e w' ⟨he,hw⟩=>⟨he,by rw [hw]; exact Below.refl _ _⟩
 clear hC h
 generalize zz L s.data.toList=r at *
 cases r with
 | true =>
  show Calls _ _ _ _ (yE false w)
  go_enter Tryz.func337,Tryz.ntmps337
  go_wp2_with (go_at_fn 335; (with_reducible refine HP.out.mono ?_); rintro e w1 ⟨rfl,hb⟩; have HB:=za hb; clear hb)
  go_ret
  exact ⟨rfl,HB.out⟩
 | false =>
  show Calls _ _ _ _ (yE true w)
  go_enter Tryz.func337,Tryz.ntmps337
  go_wp2_with (go_at_fn 335; (with_reducible refine HP.out.mono ?_); rintro e w1 ⟨rfl,hb⟩; have HB:=za hb; clear hb)
  go_ret
  exact ⟨rfl,HB.out⟩
set_option maxRecDepth 100000 in
theorem everys_one (A C b:Nat) (L:zI) (s:ByteArray) (w:World) (hs:s.size≤maxLen) (hA:w.cell? ⟨A,0,none⟩=some (.func (.func 335) #[] #[.pointer (some ⟨C,0,none⟩)])) (hC:w.cell? ⟨C,0,none⟩=some (.string s)) (h:zY w b L) :
  Calls Tryz.prog 334 #[.map (some b),.slice (some ⟨A,0,none⟩) 1 1] w (yE (zz L s.data.toList) w):=by
 have hmf:=mkf
 have hb:=zb (Below.refl w.heap.size w) (.cells #[.map (some b)] 274)
 have lA:A<w.heap.size:=World.block_lt_of_cell? w _ hA
 have lC:C<w.heap.size:=World.block_lt_of_cell? w _ hC
 have cA:=(hb.cell (p:=⟨A,0,none⟩) lA).trans hA
 have cC:=(hb.cell (p:=⟨C,0,none⟩) lC).trans hC
 have cD:(w.alloc (.cells #[.map (some b)] 274)).cell? ⟨w.heap.size,0,none⟩=some (.map (some b)):=by rw [World.cell?_alloc_at _ _ _ _ rfl]; rfl
 have HP:=za (XK _ A w.heap.size _ _ _ (enters_of Tryz.func337 (by kernel_rfl) rfl) cA (Qx C w.heap.size b L s _ hs cC cD (h.kept (hb.block b (World.ownsMap.lt h)))))
 have HB:=za hb
 clear hb cA cC cD h hA hC lA lC
 generalize zz L s.data.toList=r at *
 cases r with
 | true =>
  go_enter Tryz.func334,Tryz.ntmps334
  go_wp2_with fail
  with_reducible refine HP.out.mono ?_
  rintro e w1 ⟨rfl,hb1⟩
  have HB1:=za (z7 HB.out hb1)
  clear hb1 HP
  go_wp2
  go_ret
  exact ⟨rfl,HB1.out⟩
 | false =>
  go_enter Tryz.func334,Tryz.ntmps334
  go_wp2_with fail
  with_reducible refine HP.out.mono ?_
  rintro e w1 ⟨rfl,hb1⟩
  have HB1:=za (z7 HB.out hb1)
  clear hb1 HP
  go_wp2
  go_ret
  exact ⟨rfl,HB1.out⟩

set_option maxRecDepth 100000 in
theorem qt (b:Nat) (L:zI) (s:ByteArray) (w:World) (h:zY w b L) (hf:L.length≤1000) (hs:s.size≤1000) :
  Calls Tryz.prog 225 #[.map (some b),.string s] w fun e w'=>e=.returned (.tuple #[])∧zY w' b (yR L s.data.toList ())∧zg (fun i=>i=b) w w':=by
 have HC:=za (yt s w hs)
 have HA:Hid (∀ W,Below w.heap.size w W→∃ w',(Instr.mapUpdate 274 (.map (some b)) (.string s) (.bool true)).run Tryz.prog W=.ok () w'∧zY w' b (yR L s.data.toList ())∧zg (fun i=>i=b) w w'):=fun W hb=>by
  obtain ⟨w',h1,h2,h3⟩:=add10 (h.kept (hb.block b (World.ownsMap.lt h))) hf s (Nat.le_trans hs (by decide))
  exact ⟨w',h1,h2,(zg.of_below hb _).grown h3.grown (fun k hk _=>by cases hk; rfl)⟩
 clear h
 go_enter Tryz.func225,Tryz.ntmps225
 go_wp2_with fail
 with_reducible refine HC.out.mono ?_
 rintro e w1 ⟨rfl,hb⟩
 obtain ⟨w2,hrun,h2,h3⟩:=HA.out w1 hb
 have H2:=za h2
 have H3:=za h3
 clear hb h2 h3 HA HC
 go_wp2
 go_end0
 exact ⟨rfl,H2.out,H3.out⟩

set_option maxRecDepth 100000 in
theorem new10_calls (w:World):Calls Tryz.prog 194 #[] w fun e w'=>e=.returned (.pointer (some ⟨w.heap.size,0,none⟩))∧w'=w.alloc (.cells #[.map none] 278):=by
 go_enter Tryz.func194,Tryz.ntmps194
 go_wp2
 go_ret
 exact ⟨rfl,rfl⟩
theorem grp10_new (w:World):zO (w.alloc (.cells #[.map none] 278)) w.heap.size none [] :=
 ⟨(MapKept.heap_alloc w _).1,(fun _=>rfl),(fun _ h=>nomatch h),(fun _ h=>nomatch h),(fun _ h=>nomatch h),(fun _ h=>nomatch h),List.Pairwise.nil⟩

def qb (w:World) (B:Nat) (p:Option Nat) (T':zq) (w':World):Prop :=
 ∃ p',zO w' B p' T'∧(∀ c,p'=some c→p=some c∨w.heap.size≤c)∧zg (fun i=>i=B∨p=some i) w w'
theorem JT {w w':World} {B m b:Nat} {T:zq} {l:zI} {k:List UInt8} {n:Nat} (h:zO w B (some m) T) (hs:zY w b l) (hn:∀ x∈T,x.2.1≠b) (hm:m≠b) (ht:w.mapTurned w' m)
  (hown:w'.ownsMap Tryz.prog 9 R10 m n (uK FR (yR T k (b,l)))):zO w' B (some m) (yR T k (b,l)):=by
 have htn:zg (fun i=>i=m) w w':=(zg.refl _ w).grown ht.grown (fun k hk _=>by cases hk; rfl)
 refine ⟨(htn.block B h.lt (fun e=>h.mne m rfl e.symm)).trans h.blk,(fun e=>nomatch e),fun c hc=>?_,fun x hx=>?_,fun x hx y hy e=>?_,fun x hx=>?_,xc h.rise _ _⟩
 ·
  cases hc
  have:=vI hown
  rwa [vK] at this
 ·
  rcases yM.1 hx with rfl | ⟨hx,_⟩
  ·
   exact hs.kept (htn.block b (World.ownsMap.lt hs) (fun e=>hm e.symm))
  ·
   exact (h.sets x hx).kept (htn.block _ (h.slt x hx) (fun e=>h.off x hx (by rw [e])))
 ·
  rcases yM.1 hx with rfl | ⟨hx,_⟩ <;> rcases yM.1 hy with rfl | ⟨hy,_⟩
  ·
   rfl
  ·
   exact absurd e.symm (hn y hy)
  ·
   exact absurd e (hn x hx)
  ·
   exact h.one x hx y hy e
 ·
  rcases yM.1 hx with rfl | ⟨hx,_⟩
  ·
   intro e; injection e with e; exact hm e
  ·
   exact h.off x hx
theorem Xz {w:World} {B m b:Nat} {T:zq} {l:zI} (h:zO w B (some m) T) (hs:zY w b l) (hn:∀ x∈T,x.2.1≠b) (hm:m≠b) (hf:T.length≤1000) (g:ByteArray) (hg:g.size≤maxLen) :
  ∃ w',(Instr.mapUpdate 276 (.map (some m)) (.string g) (.map (some b))).run Tryz.prog w=.ok () w'∧zO w' B (some m) (yR T g.data.toList (b,l))∧zg (fun i=>i=m) w w':=by
 obtain ⟨w',hrun,hown,ht⟩:=(h.map m rfl).store xM Tryz.underlying276 (Nat.lt_of_le_of_lt hf (by decide)) (Zb g hg) (show R10 (.map (some b))=some (.lit (.int .i64 b),[]) from rfl)
 have e:uK FR (yR T g.data.toList (b,l))=(uK FR T).put (.string g.data.toList) (.lit (.int .i64 b)):=(QD FR T _ (b,l)).symm
 exact ⟨w',hrun,JT h hs hn hm ht (by rw [e]; exact hown),(zg.refl _ w).grown ht.grown (fun k hk _=>by cases hk; rfl)⟩

def YP10 (B m b:Nat) (g:ByteArray):Nat→Value→Prop
 | 3,v=>v=.map (some m)
 | 4,v=>v=.string g
 | 5,v=>v=.string g
 | 6,v=>v=.map (some b)
 | _,v=>v=.pointer (some ⟨B,0,none⟩)
def YPut10 (B m b:Nat) (g:ByteArray) (j:Nat) (v:Value) (_:World):Prop:=YP10 B m b g j v

set_option maxRecDepth 100000 in
theorem put10_some (B m b:Nat) (T:zq) (l:zI) (g:ByteArray) (w:World) (h:zO w B (some m) T) (hs:zY w b l) (hn:∀ x∈T,x.2.1≠b) (hm:m≠b) (hf:T.length≤1000) (hg:g.size≤1000) :
  Calls Tryz.prog 198 #[.pointer (some ⟨B,0,none⟩),.string g,.map (some b)] w fun e w'=>e=.returned (.tuple #[])∧qb w B (some m) (yR T g.data.toList (b,l)) w':=by
 have HC:Hid (∀ W,Calls Tryz.prog 191 #[.string g] W fun e w'=>e=.returned (.string g)∧Below W.heap.size W w'):=fun W=>yt g W hg
 have hq:=nilmap10 w (some m)
 have hc:=h.cell
 have HG1:=za h
 have HST:Hid (∀ W,Below w.heap.size w W→∃ w',(Instr.mapUpdate 276 (.map (some m)) (.string g) (.map (some b))).run Tryz.prog W=.ok () w'∧qb w B (some m) (yR T g.data.toList (b,l)) w'):=fun W hb=>by
  obtain ⟨w',h1,h2,h3⟩:=Xz (h.later hb) (hs.kept (hb.block b (World.ownsMap.lt hs))) hn hm hf g (Nat.le_trans hg (by decide))
  exact ⟨w',h1,some m,h2,(fun _ e=>.inl e),(zg.of_below hb _).next h3 (fun i _ e=>.inr (by rw [e]))⟩
 clear h hs hn hm hf
 go_enter Tryz.func198,Tryz.ntmps198
 go_wp2_with fail

 refine zA (by kernel_rfl) 7 (fun W=>Below w.heap.size w W) (fun W=>qb w B (some m) (yR T g.data.toList (b,l)) W) (YPut10 B m b g) (fun _=>True) ?F ?hF (by kernel_rfl) (by kernel_rfl) (by kernel_rfl) (by kernel_rfl) (by decide) (zM (Below.refl _ _)) ?step ?fin
 case hF =>
  intro x
  simp only [List.map_cons,List.map_nil,vb,Act.put,List.setIfInBounds_toArray,List.set_cons_zero,List.set_cons_succ,Nat.zero_add,Nat.reduceAdd]
  exact rfl
 case step =>
  refine ⟨?_,?_,?_,?_,?_,?_,?_,?_,trivial⟩
  ·
   intro x W
   refine ⟨fun _ hW hdep K hK=>?_,(fun h=>absurd h (by decide)),(fun h=>absurd h (by decide))⟩
   clear hdep
   go_simp
   exact hK _ _ rfl hW (fun _ _ h=>h)
  ·
   intro x W
   refine ⟨fun _ hW hdep K hK=>?_,(fun h=>absurd h (by decide)),(fun h=>absurd h (by decide))⟩
   have h0:x 0=_:=hdep 0 rfl
   clear hdep
   simp only [h0] at hK
   go_simp
   exact hK _ _ rfl hW (fun _ _ h=>h)
  ·
   intro x W
   refine ⟨fun _ hW hdep K hK=>?_,(fun h=>absurd h (by decide)),(fun h=>absurd h (by decide))⟩
   have h1:x 1=_:=hdep 1 rfl
   clear hdep
   simp only [h1] at hK
   go_simp
   exact hK _ _ rfl hW (fun _ _ h=>h)
  ·
   intro x W
   refine ⟨fun _ hW hdep K hK=>?_,(fun h=>absurd h (by decide)),(fun h=>absurd h (by decide))⟩
   have h2:x 2=_:=hdep 2 rfl
   have c:=(HG1.out.later hW).cell
   clear hdep
   simp only [h2] at hK
   go_simp
   exact hK _ _ rfl hW (fun _ _ h=>h)
  ·
   intro x W
   refine ⟨fun _ hW hdep K hK=>?_,(fun h=>absurd h (by decide)),(fun h=>absurd h (by decide))⟩
   clear hdep
   go_simp
   exact hK _ _ rfl hW (fun _ _ h=>h)
  ·
   intro x W
   refine ⟨fun _ hW hdep K hK=>?_,(fun h=>absurd h (by decide)),(fun h=>absurd h (by decide))⟩
   have h4:x 4=_:=hdep 4 rfl
   have hc:=HC.out W
   clear hdep
   simp only [h4] at hK
   go_simp
   refine hc.mono ?_
   rintro e W' ⟨rfl,hb⟩
   exact hK _ _ rfl (z7 hW hb) (fun _ _ h=>h)
  ·
   intro x W
   refine ⟨fun _ hW hdep K hK=>?_,(fun h=>absurd h (by decide)),(fun h=>absurd h (by decide))⟩
   clear hdep
   go_simp
   exact hK _ _ rfl hW (fun _ _ h=>h)
  ·
   intro x W
   refine ⟨(fun h=>absurd h (by decide)),fun _ hW hdep K hK=>?_,(fun h=>absurd h (by decide))⟩
   have h3:x 3=_:=hdep 3 rfl
   have h5:x 5=_:=hdep 5 rfl
   have h6:x 6=_:=hdep 6 rfl
   obtain ⟨w',hrun,hg⟩:=HST.out W hW
   clear hdep
   simp only [h3,h5,h6] at hK
   go_simp
   exact hK undef _ trivial hg
 case fin =>
  intro x W hW _
  have HF:=za hW
  clear hW HG1 HST HC
  go_end0
  exact ⟨rfl,HF.out⟩

set_option maxRecDepth 100000 in
theorem put10_none (B b:Nat) (l:zI) (g:ByteArray) (w:World) (h:zO w B none []) (hs:zY w b l) (hg:g.size≤1000) :
  Calls Tryz.prog 198 #[.pointer (some ⟨B,0,none⟩),.string g,.map (some b)] w fun e w'=>e=.returned (.tuple #[])∧qb w B none (yR [] g.data.toList (b,l)) w':=by
 have HC:Hid (∀ W,Calls Tryz.prog 191 #[.string g] W fun e w'=>e=.returned (.string g)∧Below W.heap.size W w'):=fun W=>yt g W hg
 have hq:=nilmap10 w none
 have hc:=h.cell
 have hf0:=h.frozen
 have hBl:=h.lt
 have hmm:=@run_makeMap Tryz.prog
 have hbl:b<w.heap.size:=World.ownsMap.lt hs
 have hbB:b≠B:=zL hs h.blk
 have hsz:(w.setCell ⟨B,0,none⟩ (.map (some w.heap.size))).heap.size=w.heap.size:=by simp [World.setCell]
 have hblk1:=heap_setCell_box_a (.map (some w.heap.size)) h.blk
 have hblk2:((w.setCell ⟨B,0,none⟩ (.map (some w.heap.size))).alloc (.map #[] 0)).heap[B]? = some (.cells #[.map (some w.heap.size)] 278 (0,0)):=(Below.heap_alloc _ _ B (by omega)).trans hblk1
 have hown:=World.ownsMap_made (H:=Unit) (w.setCell ⟨B,0,none⟩ (.map (some w.heap.size))) Tryz.prog 9 R10
 rw [hsz] at hown
 have ht1:zg (fun i=>i=B∨(none:Option Nat)=some i) w ((w.setCell ⟨B,0,none⟩ (.map (some w.heap.size))).alloc (.map #[] 0)):=((zg.refl _ w).setCell (p:=⟨B,0,none⟩) (fun _=>.inl rfl) _).alloc _
 have hG:zO ((w.setCell ⟨B,0,none⟩ (.map (some w.heap.size))).alloc (.map #[] 0)) B (some w.heap.size) []:=by
  refine ⟨hblk2,(fun e=>nomatch e),fun c hc=>?_,(fun _ h=>nomatch h),(fun _ h=>nomatch h),(fun _ h=>nomatch h),List.Pairwise.nil⟩
  cases hc
  exact hown
 have hs1:zY ((w.setCell ⟨B,0,none⟩ (.map (some w.heap.size))).alloc (.map #[] 0)) b l:=hs.kept (ht1.block b hbl (by rintro (e | e); exact hbB e; cases e))
 have HG1:=za hG
 have HST:Hid (∀ W,Below ((w.setCell ⟨B,0,none⟩ (.map (some w.heap.size))).alloc (.map #[] 0)).heap.size ((w.setCell ⟨B,0,none⟩ (.map (some w.heap.size))).alloc (.map #[] 0)) W→∃ w',(Instr.mapUpdate 276 (.map (some w.heap.size)) (.string g) (.map (some b))).run Tryz.prog W=.ok () w'∧qb w B none (yR [] g.data.toList (b,l)) w'):=fun W hb=>by
  obtain ⟨w',h1,h2,h3⟩:=Xz (hG.later hb) (hs1.kept (hb.block b (World.ownsMap.lt hs1))) (fun _ h=>nomatch h) (by omega) (by simp) g (Nat.le_trans hg (by decide))
  refine ⟨w',h1,some w.heap.size,h2,(fun c e=>.inr (by cases e; exact Nat.le_refl _)),(ht1.next (zg.of_below hb (fun _=>False)) (fun _ _ f=>f.elim)).next h3 (fun i hi e=>?_)⟩
  omega
 obtain ⟨hc2,hf2⟩:=cell_of_box_a hblk2
 clear h hs hs1 hG hown hblk1 hblk2 ht1 hbl hbB hsz
 go_enter Tryz.func198,Tryz.ntmps198
 go_wp2_with fail
 generalize (w.setCell ⟨B,0,none⟩ (.map (some w.heap.size))).alloc (.map #[] 0)=w1 at *

 refine zA (by kernel_rfl) 7 (fun W=>Below w1.heap.size w1 W) (fun W=>qb w B none (yR [] g.data.toList (b,l)) W) (YPut10 B w.heap.size b g) (fun _=>True) ?F ?hF (by kernel_rfl) (by kernel_rfl) (by kernel_rfl) (by kernel_rfl) (by decide) (zM (Below.refl _ _)) ?step ?fin
 case hF =>
  intro x
  simp only [List.map_cons,List.map_nil,vb,Act.put,List.setIfInBounds_toArray,List.set_cons_zero,List.set_cons_succ,Nat.zero_add,Nat.reduceAdd]
  exact rfl
 case step =>
  refine ⟨?_,?_,?_,?_,?_,?_,?_,?_,trivial⟩
  ·
   intro x W
   refine ⟨fun _ hW hdep K hK=>?_,(fun h=>absurd h (by decide)),(fun h=>absurd h (by decide))⟩
   clear hdep
   go_simp
   exact hK _ _ rfl hW (fun _ _ h=>h)
  ·
   intro x W
   refine ⟨fun _ hW hdep K hK=>?_,(fun h=>absurd h (by decide)),(fun h=>absurd h (by decide))⟩
   have h0:x 0=_:=hdep 0 rfl
   clear hdep
   simp only [h0] at hK
   go_simp
   exact hK _ _ rfl hW (fun _ _ h=>h)
  ·
   intro x W
   refine ⟨fun _ hW hdep K hK=>?_,(fun h=>absurd h (by decide)),(fun h=>absurd h (by decide))⟩
   have h1:x 1=_:=hdep 1 rfl
   clear hdep
   simp only [h1] at hK
   go_simp
   exact hK _ _ rfl hW (fun _ _ h=>h)
  ·
   intro x W
   refine ⟨fun _ hW hdep K hK=>?_,(fun h=>absurd h (by decide)),(fun h=>absurd h (by decide))⟩
   have h2:x 2=_:=hdep 2 rfl
   have c:=(HG1.out.later hW).cell
   clear hdep
   simp only [h2] at hK
   go_simp
   exact hK _ _ rfl hW (fun _ _ h=>h)
  ·
   intro x W
   refine ⟨fun _ hW hdep K hK=>?_,(fun h=>absurd h (by decide)),(fun h=>absurd h (by decide))⟩
   clear hdep
   go_simp
   exact hK _ _ rfl hW (fun _ _ h=>h)
  ·
   intro x W
   refine ⟨fun _ hW hdep K hK=>?_,(fun h=>absurd h (by decide)),(fun h=>absurd h (by decide))⟩
   have h4:x 4=_:=hdep 4 rfl
   have hc:=HC.out W
   clear hdep
   simp only [h4] at hK
   go_simp
   refine hc.mono ?_
   rintro e W' ⟨rfl,hb⟩
   exact hK _ _ rfl (z7 hW hb) (fun _ _ h=>h)
  ·
   intro x W
   refine ⟨fun _ hW hdep K hK=>?_,(fun h=>absurd h (by decide)),(fun h=>absurd h (by decide))⟩
   clear hdep
   go_simp
   exact hK _ _ rfl hW (fun _ _ h=>h)
  ·
   intro x W
   refine ⟨(fun h=>absurd h (by decide)),fun _ hW hdep K hK=>?_,(fun h=>absurd h (by decide))⟩
   have h3:x 3=_:=hdep 3 rfl
   have h5:x 5=_:=hdep 5 rfl
   have h6:x 6=_:=hdep 6 rfl
   obtain ⟨w',hrun,hg⟩:=HST.out W hW
   clear hdep
   simp only [h3,h5,h6] at hK
   go_simp
   exact hK undef _ trivial hg
 case fin =>
  intro x W hW _
  have HF:=za hW
  clear hW HG1 HST HC
  go_end0
  exact ⟨rfl,HF.out⟩

theorem put10_calls (B b:Nat) (p:Option Nat) (T:zq) (l:zI) (g:ByteArray) (w:World) (h:zO w B p T) (hs:zY w b l) (hn:∀ x∈T,x.2.1≠b) (hm:p≠some b) (hf:T.length≤1000) (hg:g.size≤1000) :
  Calls Tryz.prog 198 #[.pointer (some ⟨B,0,none⟩),.string g,.map (some b)] w fun e w'=>e=.returned (.tuple #[])∧qb w B p (yR T g.data.toList (b,l)) w':=by
 cases p with
 | none =>
  have:=h.nil rfl
  subst this
  exact put10_none B b l g w h hs hg
 | some m=>exact put10_some B m b T l g w h hs hn (fun e=>hm (by rw [e])) hf hg

set_option maxRecDepth 100000 in
theorem XD (B:Nat) (p:Option Nat) (T:zq) (g:ByteArray) (w:World) (h:zO w B p T) (hg:g.size≤9223372036854775807) :
  Calls Tryz.prog 224 #[.pointer (some ⟨B,0,none⟩),.string g,.slice none 0 0] w fun e w'=>e=.returned (.tuple #[.map (if zV (z8 T) g.data.toList []=0 then uX T g.data.toList else none),.int .i64 (zV (z8 T) g.data.toList [])])∧Below w.heap.size w w':=by
 have HI:=za h
 have hb0:Below w.heap.size w (w.alloc (.cells #[.string g] 9)):=zb (Below.refl _ _) _
 have HN:=za (um w.heap.size g _ hg (show (w.alloc (.cells #[.string g] 9)).cell? ⟨w.heap.size,0,none⟩=some (.string g) by rw [World.cell?_alloc_at _ _ _ _ rfl]; rfl))
 have HB0:=za hb0
 have HLK:Hid (∀ W,Below w.heap.size w W→(Instr.lookup 276 (.map p) (.string g) true).run Tryz.prog W=.ok (.tuple #[.map (uX T g.data.toList),.bool (zz T g.data.toList)]) W):=fun W hb=>look10 (h.later hb) g (Nat.le_trans hg (by decide))
 unfold zV
 rw [vV]
 have hbn:zz T g.data.toList=false→uX T g.data.toList=none:=Um
 clear hb0 h
 generalize uX T g.data.toList=o at *
 generalize zz T g.data.toList=b at *
 generalize zh g.data.toList=a at *
 cases a with
 | false =>
  show Calls _ _ _ _ fun e w'=>e=.returned (.tuple #[.map none,.int .i64 10])∧Below w.heap.size w w'
  go_enter Tryz.func224,Tryz.ntmps224
  go_wp2_with fail
  with_reducible refine HN.out.mono ?_
  rintro e w1 ⟨rfl,hb⟩
  have HB:=za (z7 HB0.out hb)
  clear hb HN
  go_wp2
  go_ret2
  exact ⟨rfl,HB.out⟩
 | true =>
  cases b with
  | false =>
   rw [hbn rfl]
   show Calls _ _ _ _ fun e w'=>e=.returned (.tuple #[.map none,.int .i64 8])∧Below w.heap.size w w'
   go_enter Tryz.func224,Tryz.ntmps224
   go_wp2_with fail
   with_reducible refine HN.out.mono ?_
   rintro e w1 ⟨rfl,hb⟩
   have hb1:=z7 HB0.out hb
   have HB1:=za hb1
   have HM1:=za (Zo w1)
   clear hb hb1
   go_wp2_with fail
   with_reducible refine HM1.out.mono ?_
   rintro e w2 ⟨rfl,rfl⟩
   have HB2:=HB1
   clear HM1
   have c2:=(HI.out.later HB2.out).cell
   have l2:=HLK.out _ HB2.out
   clear HN HLK HI
   go_wp2
   go_ret2
   exact ⟨rfl,HB2.out⟩
  | true =>
   show Calls _ _ _ _ fun e w'=>e=.returned (.tuple #[.map o,.int .i64 0])∧Below w.heap.size w w'
   go_enter Tryz.func224,Tryz.ntmps224
   go_wp2_with fail
   with_reducible refine HN.out.mono ?_
   rintro e w1 ⟨rfl,hb⟩
   have hb1:=z7 HB0.out hb
   have HB1:=za hb1
   have HM1:=za (Zo w1)
   clear hb hb1
   go_wp2_with fail
   with_reducible refine HM1.out.mono ?_
   rintro e w2 ⟨rfl,rfl⟩
   have HB2:=HB1
   clear HM1
   have c2:=(HI.out.later HB2.out).cell
   have l2:=HLK.out _ HB2.out
   clear HN HLK HI
   go_wp2
   go_ret2
   exact ⟨rfl,HB2.out⟩

set_option maxRecDepth 100000 in
theorem Uh (B:Nat) (p:Option Nat) (T:zq) (g:ByteArray) (A:Nat) (n:ByteArray) (w:World) (h:zO w B p T) (hg:g.size≤9223372036854775807) (hn:n.size≤9223372036854775807) (hA:w.cell? ⟨A,0,none⟩=some (.string n)) :
  Calls Tryz.prog 224 #[.pointer (some ⟨B,0,none⟩),.string g,.slice (some ⟨A,0,none⟩) 1 1] w fun e w'=>e=.returned (.tuple #[.map (if zV (z8 T) g.data.toList [n.data.toList]=0 then uX T g.data.toList else none),.int .i64 (zV (z8 T) g.data.toList [n.data.toList])])∧Below w.heap.size w w':=by
 have HI:=za h
 have hb0:Below w.heap.size w (w.alloc (.cells #[.string g] 9)):=zb (Below.refl _ _) _
 have HN:=za (um w.heap.size g _ hg (show (w.alloc (.cells #[.string g] 9)).cell? ⟨w.heap.size,0,none⟩=some (.string g) by rw [World.cell?_alloc_at _ _ _ _ rfl]; rfl))
 have HB0:=za hb0
 have HLK:Hid (∀ W,Below w.heap.size w W→(Instr.lookup 276 (.map p) (.string g) true).run Tryz.prog W=.ok (.tuple #[.map (uX T g.data.toList),.bool (zz T g.data.toList)]) W):=fun W hb=>look10 (h.later hb) g (Nat.le_trans hg (by decide))
 unfold zV
 rw [vV]
 have hbn:zz T g.data.toList=false→uX T g.data.toList=none:=Um
 have lA:A<w.heap.size:=World.block_lt_of_cell? w _ hA
 have HM:Hid (∀ W,Below w.heap.size w W→Calls Tryz.prog 197 #[.slice (some ⟨A,0,none⟩) 1 1] W (yE (zh n.data.toList) W)):=fun W hb=>um A n W hn ((hb.cell (p:=⟨A,0,none⟩) lA).trans hA)
 clear hA lA
 simp only [List.all_cons,List.all_nil,Bool.and_true]
 generalize zh n.data.toList=d at *
 clear hb0 h
 generalize uX T g.data.toList=o at *
 generalize zz T g.data.toList=b at *
 generalize zh g.data.toList=a at *
 cases a with
 | false =>
  show Calls _ _ _ _ fun e w'=>e=.returned (.tuple #[.map none,.int .i64 10])∧Below w.heap.size w w'
  go_enter Tryz.func224,Tryz.ntmps224
  go_wp2_with fail
  with_reducible refine HN.out.mono ?_
  rintro e w1 ⟨rfl,hb⟩
  have HB:=za (z7 HB0.out hb)
  clear hb HN
  go_wp2
  go_ret2
  exact ⟨rfl,HB.out⟩
 | true =>
  cases d with
  | false =>
   show Calls _ _ _ _ fun e w'=>e=.returned (.tuple #[.map none,.int .i64 10])∧Below w.heap.size w w'
   go_enter Tryz.func224,Tryz.ntmps224
   go_wp2_with fail
   with_reducible refine HN.out.mono ?_
   rintro e w1 ⟨rfl,hb⟩
   have hb1:=z7 HB0.out hb
   have HB1:=za hb1
   have HM1:=za (HM.out w1 hb1)
   clear hb hb1
   go_wp2_with fail
   with_reducible refine HM1.out.mono ?_
   rintro e w2 ⟨rfl,hb⟩
   have HB2:=za (z7 HB1.out hb)
   clear hb HM1 HM
   go_wp2
   go_ret2
   exact ⟨rfl,HB2.out⟩
  | true =>
   cases b with
   | false =>
    rw [hbn rfl]
    show Calls _ _ _ _ fun e w'=>e=.returned (.tuple #[.map none,.int .i64 8])∧Below w.heap.size w w'
    go_enter Tryz.func224,Tryz.ntmps224
    go_wp2_with fail
    with_reducible refine HN.out.mono ?_
    rintro e w1 ⟨rfl,hb⟩
    have hb1:=z7 HB0.out hb
    have HB1:=za hb1
    have HM1:=za (HM.out w1 hb1)
    clear hb hb1
    go_wp2_with fail
    with_reducible refine HM1.out.mono ?_
    rintro e w2 ⟨rfl,hb⟩
    have HB2:=za (z7 HB1.out hb)
    clear hb HM1 HM
    have c2:=(HI.out.later HB2.out).cell
    have l2:=HLK.out _ HB2.out
    clear HN HLK HI
    go_wp2
    go_ret2
    exact ⟨rfl,HB2.out⟩
   | true =>
    show Calls _ _ _ _ fun e w'=>e=.returned (.tuple #[.map o,.int .i64 0])∧Below w.heap.size w w'
    go_enter Tryz.func224,Tryz.ntmps224
    go_wp2_with fail
    with_reducible refine HN.out.mono ?_
    rintro e w1 ⟨rfl,hb⟩
    have hb1:=z7 HB0.out hb
    have HB1:=za hb1
    have HM1:=za (HM.out w1 hb1)
    clear hb hb1
    go_wp2_with fail
    with_reducible refine HM1.out.mono ?_
    rintro e w2 ⟨rfl,hb⟩
    have HB2:=za (z7 HB1.out hb)
    clear hb HM1 HM
    have c2:=(HI.out.later HB2.out).cell
    have l2:=HLK.out _ HB2.out
    clear HN HLK HI
    go_wp2
    go_ret2
    exact ⟨rfl,HB2.out⟩
end Go.Proofs.YteegkoicalbkbaaGreatDoor
namespace Go.Proofs.YteegkoicalbkbaaGreatDoor
open Go.RowKit Go.Maps Go.Sort Go.Shelf

theorem lt10 (x y:List UInt8):ltOf Lib.compareBytes x y=bytesBefore x y:=qI x y
theorem swo10:SWO (ltOf Lib.compareBytes) where
 irrefl x:=by rw [lt10]; exact zB x
 trans x y z h1 h2:=by rw [lt10] at *; exact WideShapes.bytes_trans _ _ _ h1 h2
 ntrans x y z h1 h2:=by
  rw [lt10] at *
  cases h:bytesBefore x z
  ·
   rfl
  ·
   by_cases e:x=y
   ·
    subst e; rw [h] at h2; cases h2
   ·
    rcases WideAt.bytes_total x y e with h' | h'
    ·
     rw [h'] at h1; cases h1
    ·
     rw [WideShapes.bytes_trans _ _ _ h' h] at h2; cases h2
theorem tot10 (x y:List UInt8) (h1:ltOf Lib.compareBytes x y=false) (h2:ltOf Lib.compareBytes y x=false):x=y:=by
 rw [lt10] at *
 by_cases e:x=y
 ·
  exact e
 ·
  rcases WideAt.bytes_total x y e with h' | h'
  ·
   rw [h'] at h1; cases h1
  ·
   rw [h'] at h2; cases h2
set_option maxRecDepth 100000 in
theorem XM (a b:ByteArray) (w:World) :
  Calls Tryz.prog 188 #[.string a,.string b] w fun e w'=>e=.returned (.int .i64 (Lib.compareBytes a.data.toList b.data.toList))∧w'=w:=by
 have HC:=za (Tryz.strings_Compare a b w)
 generalize Lib.compareBytes a.data.toList b.data.toList=r at *
 go_enter Tryz.func188,Tryz.ntmps188
 go_wp2_with fail
 with_reducible refine HC.out.mono ?_
 rintro e w1 ⟨rfl,rfl⟩
 go_wp2
 go_ret
 exact ⟨rfl,rfl⟩
theorem cmp10 (blk off size:Nat) (w:World):CmpLays1 Tryz.prog 188 #[] encStr Lib.compareBytes blk off size w :=
 CmpReads.lays fun _ _ _ _ x y=>(XM ⟨x.toArray⟩ ⟨y.toArray⟩ _).mono fun e w' ⟨he,hw⟩=>⟨by rw [he],0,hw⟩
theorem Y9 (blk cap:Nat) (ss ls:List (List UInt8)) (W:World) (hr:un ls) (hp:ss.Perm ls) (hH:Holds encStr W blk 0 ss.toArray) (hb:blk<W.heap.size) (hl:ss.length<4611686018427387904) :
  Calls Tryz.prog 242 #[.slice (some ⟨blk,0,none⟩) ss.length cap,.func (.func 188) #[] #[]] W fun e w'=>e=.returned (.tuple #[])∧∃ n os,w'=grow (putRow encStr (Sort.ahead W n) blk 0 ls.toArray) os:=by
 have:=Tryz.slices_SortFunc_total encStr (fun _=>rfl) Lib.compareBytes swo10 188 #[] blk 0 cap ss.toArray W (enters_of Tryz.func188 (by kernel_rfl) rfl) (cmp10 blk 0 _ W) hH hb (by simpa using hl) tot10
 rw [← J8 hr hp (fun x y=>!(ltOf Lib.compareBytes) y x) (fun x y=>by rw [lt10])]
 simpa [sortWorld] using this
theorem qL (cap:Nat) (W:World):Calls Tryz.prog 242 #[.slice none 0 cap,.func (.func 188) #[] #[]] W fun e w'=>e=.returned (.tuple #[])∧w'=W :=
 Tryz.slices_SortFunc_none (α:=List UInt8) none cap _ W

def qq {V:Type} (T:yK V) (q:List UInt8×V→Bool) (left:Lit→Bool) (ss:List (List UInt8)):Prop:=ss.Nodup∧∀ x,x∈ss↔∃ p∈T,p.1=x∧q p=true∧left (.string x)=false
section
variable {V:Type} {T:yK V} {q:List UInt8×V→Bool} {left:Lit→Bool} {ss:List (List UInt8)}
theorem qq.start (e:V→DataW Unit):qq T q (Maps.has (uK e T)) []:=⟨List.nodup_nil,fun x=>by
 constructor
 ·
  intro h; cases h
 ·
  rintro ⟨p,hp,rfl,_,h⟩
  rw [YH,vf.2 ⟨p,hp,rfl⟩] at h
  cases h⟩
theorem Fl {e:V→DataW Unit} (hr:zJ T) {x:List UInt8} {y:DataW Unit} (hat:∀ zd,(uK e T).atKey (.string x) zd=y):∃ p∈T,p.1=x∧e p.2=y:=by
 have h1:Maps.has (uK e T) (.string x)=true:=has_true_of_atKey hat
 rw [YH] at h1
 obtain ⟨v,hv⟩:=qT h1
 have h2:=hat .nil
 rw [YI _ hv] at h2
 exact ⟨(x,v),(ye hr).1 hv,rfl,h2⟩
theorem qq.hit (h:qq T q left ss) {p:List UInt8×V} (hp:p∈T) (hq:q p=true) (hlk:left (.string p.1)=true):qq T q (fun z=>left z && !z.sameKey (.string p.1)) (ss++[p.1]):=by
 have hnew:p.1∉ss:=fun hx=>by obtain ⟨_,_,_,_,h'⟩:=(h.2 _).1 hx; rw [hlk] at h'; cases h'
 refine ⟨List.nodup_append.2 ⟨h.1,by simp,fun a ha b hb=>by simp at hb; subst hb; exact fun e=>hnew (e ▸ ha)⟩,fun y=>?_⟩
 by_cases hy:y=p.1
 ·
  subst hy
  constructor
  ·
   intro _; exact ⟨p,hp,rfl,hq,by simp [Lit.sameKey]⟩
  ·
   intro _; simp
 ·
  simp [h.2 y,hy,Lit.sameKey]
theorem qq.miss (hr:zJ T) (h:qq T q left ss) {p:List UInt8×V} (hp:p∈T) (hq:q p=false):qq T q (fun z=>left z && !z.sameKey (.string p.1)) ss:=by
 refine ⟨h.1,fun y=>?_⟩
 rw [h.2 y]
 refine exists_congr fun p'=>and_congr_right fun hp'=>and_congr_right fun e=>and_congr_right fun hq'=>?_
 have:y≠p.1:=fun ey=>by
  have:=Jg hr hp' hp (e.trans ey)
  rw [this,hq] at hq'
  cases hq'
 simp [Lit.sameKey,this]
theorem qq.perm (hr:zJ T) (h:qq T q left ss) (hl:∀ kl,left kl=false):ss.Perm (zc (T.filter q)):=by
 refine (List.perm_ext_iff_of_nodup h.1 ?_).2 fun x=>?_
 ·
  have h1:un (zc (T.filter q)):=zJ.names (hr.filter _)
  exact h1.imp fun {a b} hab e=>by subst e; rw [zB] at hab; cases hab
 ·
  rw [h.2 x]
  unfold zc
  simp only [List.mem_map,List.mem_filter,hl]
  constructor
  ·
   rintro ⟨p,hp,rfl,hq,_⟩; exact ⟨p,⟨hp,hq⟩,rfl⟩
  ·
   rintro ⟨p,⟨hp,hq⟩,rfl⟩; exact ⟨p,hp,rfl,hq,trivial⟩
end
theorem uf {w w':World} {P:Program} {k:TypeId} {R:Value→Option (DataW Unit×List MemPlace)} {b r n:Nat} {D:DataW Unit} {left:Lit→Bool} {cnt:Nat} (h:w.ranges P k R b r n D left cnt) (hb:Below w.heap.size w w'):w'.ranges P k R b r n D left cnt:=by
 have h1:=h.owns.lt
 have h2:=h.lt
 obtain ⟨es,clock,since,seen,c0,hb',F,hs,hD,hr,rest⟩:=h
 exact ⟨es,clock,since,seen,c0,(hb.block b h1).trans hb',F,hs,hD,(hb.block r h2).trans hr,rest⟩
theorem Zc:(Tryz.prog.info? 9).map (fun i=>(i.zero,i.size,i.bytes))=some (some (.string ⟨#[]⟩),1,16):=by kernel_rfl

def mkb10 (n:Nat):Value:=.bool (n == 0)
theorem mkb10_ex (c:Bool):∃ n,Value.bool c=mkb10 n:=by
 cases c
 ·
  exact ⟨1,rfl⟩
 ·
  exact ⟨0,rfl⟩

def zT (ls:List (List UInt8)) (w:World) (e:Ending) (w':World):Prop :=
 ∃ v,e=.returned v∧w'.ownsRow w.heap.size 9 1 v ls.length (ls.map encStr)∧Below w.heap.size w w'
theorem zy {w:World} {a b:Nat} {e size n:Nat} {v:Value} {xs:List Value} (h:w.ownsRow b e size v n xs) (hab:a≤b):w.ownsRow a e size v n xs:=by
 refine ⟨h.1,?_⟩
 rcases h.2 with hn | ⟨g,cap,cur,e1,h0,hg,hr⟩
 ·
  exact .inl hn
 ·
  exact .inr ⟨g,cap,cur,e1,Nat.le_trans hab h0,hg,hr⟩
theorem xz {w w':World} {b:Nat} {e size n:Nat} {v:Value} {xs:List Value} (h:w.ownsRow b e size v n xs) (hb:Below w.heap.size w w'):w'.ownsRow b e size v n xs:=by
 refine ⟨h.1,?_⟩
 rcases h.2 with hn | ⟨g,cap,cur,e1,h0,hg,hr⟩
 ·
  exact .inl hn
 ·
  exact .inr ⟨g,cap,cur,e1,h0,(hb.block g (Array.getElem?_eq_some_iff.1 hg).1).trans hg,hr⟩

set_option maxRecDepth 100000 in
theorem fY (b:Nat) (T:yK (Nat×zI)) (q:List UInt8×(Nat×zI)→Bool) (av:Value) (w:World) (hr:zJ T) (hf:T.length≤1000) (hown:w.ownsMap Tryz.prog 9 (R10) b T.length (uK FR T))
  (hev:∀ W,Below w.heap.size w W→∀ x∈T,Calls Tryz.prog 334 #[.map (some x.2.1),av] W (yE (q x) W)) :
  Calls Tryz.prog 331 #[.map (some b),av] w (zT (zc (T.filter q)) w):=by
 obtain ⟨i0,hi,hz0,hz1,hz2⟩:=info_parts Zc
 have hbl:=hown.lt
 have HEV:=za hev
 have HR:=za hr
 clear hev hr
 have hsz:Maps.size (uK FR T)=T.length:=vK FR T
 have HSRT:Hid (∀ blk cap (ss ls:List (List UInt8)) (W:World),un ls→ss.Perm ls→Holds encStr W blk 0 ss.toArray→blk<W.heap.size→ss.length<4611686018427387904→Calls Tryz.prog 242 #[.slice (some ⟨blk,0,none⟩) ss.length cap,.func (.func 188) #[] #[]] W fun e w'=>e=.returned (.tuple #[])∧∃ n os,w'=grow (putRow encStr (Sort.ahead W n) blk 0 ls.toArray) os):=Y9
 have HSRT0:Hid (∀ cap W,Calls Tryz.prog 242 #[.slice none 0 cap,.func (.func 188) #[] #[]] W fun e w'=>e=.returned (.tuple #[])∧w'=W):=qL
 go_enter Tryz.func331,Tryz.ntmps331
 go_wp2_with (first
  | (at_range; refine wpList_range_own _ rfl _ 276 rfl 9 274 xM Tryz.underlying276 _ b _ _ rfl hown ?_; intro w0 hrg0 hg0 hs0)
  | go_in)
 go_frame
 rw [hsz] at hrg0
 have hs1:w0.heap.size=w.heap.size+1:=hs0
 obtain ⟨len,hlen⟩:∃ len,len=T.length:=⟨_,rfl⟩
 rw [← hlen] at hrg0 hf
 have HLN:=za hlen
 clear hs0 hown hlen hsz
 go_loopw [5] (fun v wr=>∃ (left:Lit→Bool) (cnt:Nat) (ss:List (List UInt8)),Hid (wr.ranges Tryz.prog 9 (R10) b w.heap.size len (uK FR T) left cnt)∧ss.length+cnt≤len ∧
   Hid (wr.ownsRow w.heap.size 9 1 v ss.length (ss.map encStr))∧Hid (qq T q left ss)∧Hid (Below w.heap.size w wr))
  (fun _ wr=>wr.rangeLeft b w.heap.size)
 case atStart =>
  exact ⟨_,_,[],hrg0,by simp,World.ownsRow_nil _ _ _ _,qq.start FR,(Below.refl _ _).grown hg0 (Nat.le_refl _) (fun j hj=>by cases hj)⟩
 case round =>
  obtain ⟨left,cnt,ss,HRG,hcs,HROW,HC,HNX⟩:=hrel
  have hrg:=HRG.out
  go_wp2_with (first
   | (at_next; refine wpList_next_ranges _ rfl _ rfl 9 xM (R10) encStr Value.map (fun key kl hk=>by obtain ⟨x,hx,_⟩:=Maps.keyOf_str Tryz.underlying9 hk; exact ⟨x,hx⟩) (fun v y hv=>by obtain ⟨c,rfl,_⟩:=US hv; exact ⟨c,rfl⟩) b w.heap.size len _ _ _ rfl hrg ?_ ?_)
   | go_in)
  ·
   intro hc0 hl0
   have hp:=HC.out.perm HR.out hl0
   have hrt:un (zc (T.filter q)):=zJ.names (HR.out.filter _)
   have hpl:=hp.length_eq
   have hrow:=HROW.out
   rcases hrow.2 with ⟨hnil,hz⟩ | ⟨g,cap,cur,rfl,hbase,hgb,r1,r2,r3,r4⟩
   ·
    subst hnil
    have hss:ss=[]:=List.eq_nil_of_length_eq_zero hz
    subst hss
    have hne:zc (T.filter q)=[]:=List.eq_nil_of_length_eq_zero hpl.symm
    have HF:Hid (zT (zc (T.filter q)) w (.returned (.slice none 0 0)) wr):=by
     rw [hne]
     exact ⟨_,rfl,World.ownsRow_nil _ _ _ _,HNX.out⟩
    clear hrow hz hne hpl hrt hp hrg hl0
    go_wp2_with (go_at_call 242; (with_reducible refine (HSRT0.out _ _).mono ?_); rintro e w' ⟨rfl,rfl⟩)
    go_ret
    exact HF.out
   ·
    have hH:Holds encStr wr g 0 ss.toArray:=holds_of_block hgb (by simpa using r4)
    have hgl:g<wr.heap.size:=(Array.getElem?_eq_some_iff.1 hgb).1
    have cS:=za (HSRT.out g cap ss _ wr hrt hp hH hgl (by omega))
    have HF:Hid (∀ n os,zT (zc (T.filter q)) w (.returned (.slice (some ⟨g,0,none⟩) ss.length cap)) (grow (putRow encStr (Sort.ahead wr n) g 0 (zc (T.filter q)).toArray) os)):=fun n os=>by
     refine ⟨_,rfl,?_,HNX.out.grown (grownBy_sorted _) HNX.out.size (fun j hj=>by cases hj; exact hbase)⟩
     have:=ownsRow_sorted (ts:=zc (T.filter q)) (n:=n) (os:=os) hpl.symm hbase hgb r1 r2 r3
     rw [← hpl]; exact this
    clear hrow hbase hgb r1 r2 r3 r4 hH hgl hpl hp hrt hrg hl0
    generalize ss.length=n at *
    go_wp2_with (go_at_call 242; (with_reducible refine cS.out.mono ?_); rintro e w' ⟨rfl,nn,os,rfl⟩)
    go_ret
    exact HF.out nn os
  ·
   intro x c kl yd yp w2 cnt2 hkey hlk hv hat hrg2 hlt hg2 hs2 hen
   obtain ⟨x',ex,rfl,_⟩:=Maps.keyOf_str Tryz.underlying9 hkey
   obtain rfl:x=x':=encStr_inj ex
   obtain ⟨p,hpT,rfl,hpe⟩:=Fl HR.out hat
   obtain rfl:(some p.2.1)=c:=by
    obtain ⟨o,ho,hz⟩:=US hv
    have e1:c=o:=by injection ho
    have e2:ob10 (some p.2.1)=ob10 o:=hpe.trans hz
    rw [e1]; exact Q1 e2
   have hnx2:Below w.heap.size w w2:=HNX.out.grown hg2 HNX.out.size (fun j hj=>by cases hj; exact Nat.le_refl _)
   have hrow2:=HROW.out.kept hg2 (Or.inr (row_ne_iter HROW.out hrg).symm)
   have HEV2:=za (HEV.out w2 hnx2 p hpT)
   have HNX2:=za hnx2
   have HROW2:=za hrow2
   have HRG2:=za hrg2
   have hkz:(fun l:List UInt8=>(Value.string ⟨l.toArray⟩)) p.1=encStr p.1:=rfl
   have HLT:Hid (cnt2<wr.rangeLeft b w.heap.size):=by rw [show wr.rangeLeft b w.heap.size=cnt from hrg.left_eq]; exact hlt
   have HPT:=za hpT
   have HLK:=za hlk
   clear hs2 hnx2 hrow2 hrg2 hkz hpT hat hv hpe hkey hg2 HROW HRG hrg HNX HEV hlk
   have hlt2:ss.length+cnt2+1≤len:=by omega
   have hkv:encStr p.1=.string (yl p.1):=rfl
   have HKV:=za hkv
   rw [hkv] at hen ⊢
   clear hkv
   cases hq:q p with
   | true =>
    rw [hq] at HEV2
    have HC2:=za (HC.out.hit HPT.out hq HLK.out)
    clear HC hq HLK
    generalize yl p.1=kv at *
    go_wp2_with (first
     | (go_at_call 334; (with_reducible refine HEV2.out.mono ?_); rintro e w3 ⟨rfl,hb3⟩; have HROW3:=za (xz HROW2.out hb3); have HRG3:=za (uf HRG2.out hb3); have HNX3:=za (z7 HNX2.out hb3); clear hb3)
     | (at_builtin; refine wpList_append_own _ rfl _ _ 29 rfl w.heap.size 9 i0 (.string ⟨#[]⟩) 1 16 Tryz.underlying29 hi hz0 hz1 hz2 rfl (by decide) _ _ _ rfl (HROW3.out.alloc _) ⟨w3.heap.size,0,none⟩ 1 1 [.string kv] rfl rfl (cell_one_new _ _ _) (by simp [Value.oneCell']) (by unfold maxLen at *; omega) (by omega) (by have:=HNX3.out.size; simp; omega) ?_; intro v' w4 hown' hg4 hnil4; have HOW:=za hown'; have HG4:=za hg4; clear hown' hg4 hnil4; go_frame)
     | go_in)
    have HRG4:=za ((HRG3.out.alloc _).kept HG4.out (row_ne_low HROW3.out hbl) (row_ne_iter HROW3.out HRG3.out))
    have ho:=HOW.out
    rw [← HKV.out] at ho
    have HB4:=za ((z7 HNX3.out (zb (Below.refl _ _) _)).grown HG4.out (by have:=HNX3.out.size; simp; omega) (fun j hj=>(HROW3.out.lt j hj).1))
    have HO4:Hid (w4.ownsRow w.heap.size 9 1 v' (ss++[p.1]).length ((ss++[p.1]).map encStr)):=by
     show w4.ownsRow _ _ _ _ _ _
     simpa using ho
    clear ho
    go_roundw
    case rel=>exact ⟨_,cnt2,ss++[p.1],HRG4,by simp; omega,HO4,HC2,HB4⟩
    case measure=>rw [HRG4.out.left_eq]; exact HLT.out
   | false =>
    rw [hq] at HEV2
    have HC2:=za (HC.out.miss HR.out HPT.out hq)
    clear HC hq HLK
    generalize yl p.1=kv at *
    go_wp2_with (first
     | (go_at_call 334; (with_reducible refine HEV2.out.mono ?_); rintro e w3 ⟨rfl,hb3⟩; have HROW3:=za (xz HROW2.out hb3); have HRG3:=za (uf HRG2.out hb3); have HNX3:=za (z7 HNX2.out hb3); clear hb3)
     | go_in)
    go_roundw
    case rel=>exact ⟨_,cnt2,ss,HRG3,by omega,HROW3,HC2,HNX3⟩
    case measure=>rw [HRG3.out.left_eq]; exact HLT.out

set_option maxRecDepth 100000 in
theorem X4 (av:Value) (w:World):Calls Tryz.prog 331 #[.map none,av] w (zT [] w):=by
 have hrg:=run_range_nilMap (P:=Tryz.prog) w 276 9 274 Tryz.underlying276
 have hnx:∀ ty,(Instr.next (.pointer (some ⟨w.heap.size,0,none⟩)) false ty).run Tryz.prog (w.alloc (.mapIter none 0 #[] 0))=_:=fun ty=>run_next_nilMap _ ty 0 0 #[]
 have HSRT0:Hid (∀ cap W,Calls Tryz.prog 242 #[.slice none 0 cap,.func (.func 188) #[] #[]] W fun e w'=>e=.returned (.tuple #[])∧w'=W):=qL
 have HB:=za (zb (Below.refl w.heap.size w) (.mapIter none 0 #[] 0))
 go_enter Tryz.func331,Tryz.ntmps331
 go_wp2
 refine wp_loop_rounds 1 ?_
 rw [rounds_succ]
 go_wp2_with (go_at_call 242; (with_reducible refine (HSRT0.out _ _).mono ?_); rintro e w' ⟨rfl,rfl⟩)
 go_ret
 exact ⟨_,rfl,World.ownsRow_nil _ _ _ _,HB.out⟩

set_option maxRecDepth 100000 in
theorem UP (b:Nat) (T:yK (Unit)) (q:List UInt8×(Unit)→Bool) (av:Value) (w:World) (hr:zJ T) (hf:T.length≤1000) (hown:w.ownsMap Tryz.prog 9 (plainElem Tryz.prog 4) b T.length (uK et10 T))
  (hev:∀ W,Below w.heap.size w W→∀ x∈T,Calls Tryz.prog 376 #[.bool true,av] W (yE (q x) W)) :
  Calls Tryz.prog 373 #[.map (some b),av] w (zT (zc (T.filter q)) w):=by
 obtain ⟨i0,hi,hz0,hz1,hz2⟩:=info_parts Zc
 have hbl:=hown.lt
 have HEV:=za hev
 have HR:=za hr
 clear hev hr
 have hsz:Maps.size (uK et10 T)=T.length:=vK et10 T
 have HSRT:Hid (∀ blk cap (ss ls:List (List UInt8)) (W:World),un ls→ss.Perm ls→Holds encStr W blk 0 ss.toArray→blk<W.heap.size→ss.length<4611686018427387904→Calls Tryz.prog 242 #[.slice (some ⟨blk,0,none⟩) ss.length cap,.func (.func 188) #[] #[]] W fun e w'=>e=.returned (.tuple #[])∧∃ n os,w'=grow (putRow encStr (Sort.ahead W n) blk 0 ls.toArray) os):=Y9
 have HSRT0:Hid (∀ cap W,Calls Tryz.prog 242 #[.slice none 0 cap,.func (.func 188) #[] #[]] W fun e w'=>e=.returned (.tuple #[])∧w'=W):=qL
 go_enter Tryz.func373,Tryz.ntmps373
 go_wp2_with (first
  | (at_range; refine wpList_range_own _ rfl _ 273 rfl 9 4 xM Tryz.underlying273 _ b _ _ rfl hown ?_; intro w0 hrg0 hg0 hs0)
  | go_in)
 go_frame
 rw [hsz] at hrg0
 have hs1:w0.heap.size=w.heap.size+1:=hs0
 obtain ⟨len,hlen⟩:∃ len,len=T.length:=⟨_,rfl⟩
 rw [← hlen] at hrg0 hf
 have HLN:=za hlen
 clear hs0 hown hlen hsz
 go_loopw [5] (fun v wr=>∃ (left:Lit→Bool) (cnt:Nat) (ss:List (List UInt8)),Hid (wr.ranges Tryz.prog 9 (plainElem Tryz.prog 4) b w.heap.size len (uK et10 T) left cnt)∧ss.length+cnt≤len ∧
   Hid (wr.ownsRow w.heap.size 9 1 v ss.length (ss.map encStr))∧Hid (qq T q left ss)∧Hid (Below w.heap.size w wr))
  (fun _ wr=>wr.rangeLeft b w.heap.size)
 case atStart =>
  exact ⟨_,_,[],hrg0,by simp,World.ownsRow_nil _ _ _ _,qq.start et10,(Below.refl _ _).grown hg0 (Nat.le_refl _) (fun j hj=>by cases hj)⟩
 case round =>
  obtain ⟨left,cnt,ss,HRG,hcs,HROW,HC,HNX⟩:=hrel
  have hrg:=HRG.out
  go_wp2_with (first
   | (at_next; refine wpList_next_ranges _ rfl _ rfl 9 xM (plainElem Tryz.prog 4) encStr mkb10 (fun key kl hk=>by obtain ⟨x,hx,_⟩:=Maps.keyOf_str Tryz.underlying9 hk; exact ⟨x,hx⟩) (fun v y hv=>by obtain ⟨c,rfl,_⟩:=jr hv; exact mkb10_ex c) b w.heap.size len _ _ _ rfl hrg ?_ ?_)
   | go_in)
  ·
   intro hc0 hl0
   have hp:=HC.out.perm HR.out hl0
   have hrt:un (zc (T.filter q)):=zJ.names (HR.out.filter _)
   have hpl:=hp.length_eq
   have hrow:=HROW.out
   rcases hrow.2 with ⟨hnil,hz⟩ | ⟨g,cap,cur,rfl,hbase,hgb,r1,r2,r3,r4⟩
   ·
    subst hnil
    have hss:ss=[]:=List.eq_nil_of_length_eq_zero hz
    subst hss
    have hne:zc (T.filter q)=[]:=List.eq_nil_of_length_eq_zero hpl.symm
    have HF:Hid (zT (zc (T.filter q)) w (.returned (.slice none 0 0)) wr):=by
     rw [hne]
     exact ⟨_,rfl,World.ownsRow_nil _ _ _ _,HNX.out⟩
    clear hrow hz hne hpl hrt hp hrg hl0
    go_wp2_with (go_at_call 242; (with_reducible refine (HSRT0.out _ _).mono ?_); rintro e w' ⟨rfl,rfl⟩)
    go_ret
    exact HF.out
   ·
    have hH:Holds encStr wr g 0 ss.toArray:=holds_of_block hgb (by simpa using r4)
    have hgl:g<wr.heap.size:=(Array.getElem?_eq_some_iff.1 hgb).1
    have cS:=za (HSRT.out g cap ss _ wr hrt hp hH hgl (by omega))
    have HF:Hid (∀ n os,zT (zc (T.filter q)) w (.returned (.slice (some ⟨g,0,none⟩) ss.length cap)) (grow (putRow encStr (Sort.ahead wr n) g 0 (zc (T.filter q)).toArray) os)):=fun n os=>by
     refine ⟨_,rfl,?_,HNX.out.grown (grownBy_sorted _) HNX.out.size (fun j hj=>by cases hj; exact hbase)⟩
     have:=ownsRow_sorted (ts:=zc (T.filter q)) (n:=n) (os:=os) hpl.symm hbase hgb r1 r2 r3
     rw [← hpl]; exact this
    clear hrow hbase hgb r1 r2 r3 r4 hH hgl hpl hp hrt hrg hl0
    generalize ss.length=n at *
    go_wp2_with (go_at_call 242; (with_reducible refine cS.out.mono ?_); rintro e w' ⟨rfl,nn,os,rfl⟩)
    go_ret
    exact HF.out nn os
  ·
   intro x c kl yd yp w2 cnt2 hkey hlk hv hat hrg2 hlt hg2 hs2 hen
   obtain ⟨x',ex,rfl,_⟩:=Maps.keyOf_str Tryz.underlying9 hkey
   obtain rfl:x=x':=encStr_inj ex
   obtain ⟨p,hpT,rfl,hpe⟩:=Fl HR.out hat
   have hcv:mkb10 c=.bool true:=by
    obtain ⟨o,ho,hz⟩:=jr hv
    have e2:(.lit (.bool true):DataW Unit)=.lit (.bool o):=hpe.trans (congrArg Prod.fst hz)
    injection e2 with e2
    injection e2 with e2
    rw [ho,← e2]
   rw [hcv] at hen ⊢
   clear hcv
   have hnx2:Below w.heap.size w w2:=HNX.out.grown hg2 HNX.out.size (fun j hj=>by cases hj; exact Nat.le_refl _)
   have hrow2:=HROW.out.kept hg2 (Or.inr (row_ne_iter HROW.out hrg).symm)
   have HEV2:=za (HEV.out w2 hnx2 p hpT)
   have HNX2:=za hnx2
   have HROW2:=za hrow2
   have HRG2:=za hrg2
   have hkz:(fun l:List UInt8=>(Value.string ⟨l.toArray⟩)) p.1=encStr p.1:=rfl
   have HLT:Hid (cnt2<wr.rangeLeft b w.heap.size):=by rw [show wr.rangeLeft b w.heap.size=cnt from hrg.left_eq]; exact hlt
   have HPT:=za hpT
   have HLK:=za hlk
   clear hs2 hnx2 hrow2 hrg2 hkz hpT hat hv hpe hkey hg2 HROW HRG hrg HNX HEV hlk
   have hlt2:ss.length+cnt2+1≤len:=by omega
   have hkv:encStr p.1=.string (yl p.1):=rfl
   have HKV:=za hkv
   rw [hkv] at hen ⊢
   clear hkv
   cases hq:q p with
   | true =>
    rw [hq] at HEV2
    have HC2:=za (HC.out.hit HPT.out hq HLK.out)
    clear HC hq HLK
    generalize yl p.1=kv at *
    go_wp2_with (first
     | (go_at_call 376; (with_reducible refine HEV2.out.mono ?_); rintro e w3 ⟨rfl,hb3⟩; have HROW3:=za (xz HROW2.out hb3); have HRG3:=za (uf HRG2.out hb3); have HNX3:=za (z7 HNX2.out hb3); clear hb3)
     | (at_builtin; refine wpList_append_own _ rfl _ _ 29 rfl w.heap.size 9 i0 (.string ⟨#[]⟩) 1 16 Tryz.underlying29 hi hz0 hz1 hz2 rfl (by decide) _ _ _ rfl (HROW3.out.alloc _) ⟨w3.heap.size,0,none⟩ 1 1 [.string kv] rfl rfl (cell_one_new _ _ _) (by simp [Value.oneCell']) (by unfold maxLen at *; omega) (by omega) (by have:=HNX3.out.size; simp; omega) ?_; intro v' w4 hown' hg4 hnil4; have HOW:=za hown'; have HG4:=za hg4; clear hown' hg4 hnil4; go_frame)
     | go_in)
    have HRG4:=za ((HRG3.out.alloc _).kept HG4.out (row_ne_low HROW3.out hbl) (row_ne_iter HROW3.out HRG3.out))
    have ho:=HOW.out
    rw [← HKV.out] at ho
    have HB4:=za ((z7 HNX3.out (zb (Below.refl _ _) _)).grown HG4.out (by have:=HNX3.out.size; simp; omega) (fun j hj=>(HROW3.out.lt j hj).1))
    have HO4:Hid (w4.ownsRow w.heap.size 9 1 v' (ss++[p.1]).length ((ss++[p.1]).map encStr)):=by
     show w4.ownsRow _ _ _ _ _ _
     simpa using ho
    clear ho
    go_roundw
    case rel=>exact ⟨_,cnt2,ss++[p.1],HRG4,by simp; omega,HO4,HC2,HB4⟩
    case measure=>rw [HRG4.out.left_eq]; exact HLT.out
   | false =>
    rw [hq] at HEV2
    have HC2:=za (HC.out.miss HR.out HPT.out hq)
    clear HC hq HLK
    generalize yl p.1=kv at *
    go_wp2_with (first
     | (go_at_call 376; (with_reducible refine HEV2.out.mono ?_); rintro e w3 ⟨rfl,hb3⟩; have HROW3:=za (xz HROW2.out hb3); have HRG3:=za (uf HRG2.out hb3); have HNX3:=za (z7 HNX2.out hb3); clear hb3)
     | go_in)
    go_roundw
    case rel=>exact ⟨_,cnt2,ss,HRG3,by omega,HROW3,HC2,HNX3⟩
    case measure=>rw [HRG3.out.left_eq]; exact HLT.out

set_option maxRecDepth 100000 in
theorem riseb10_nil (av:Value) (w:World):Calls Tryz.prog 373 #[.map none,av] w (zT [] w):=by
 have hrg:=run_range_nilMap (P:=Tryz.prog) w 273 9 4 Tryz.underlying273
 have hnx:∀ ty,(Instr.next (.pointer (some ⟨w.heap.size,0,none⟩)) false ty).run Tryz.prog (w.alloc (.mapIter none 0 #[] 0))=_:=fun ty=>run_next_nilMap _ ty 0 0 #[]
 have HSRT0:Hid (∀ cap W,Calls Tryz.prog 242 #[.slice none 0 cap,.func (.func 188) #[] #[]] W fun e w'=>e=.returned (.tuple #[])∧w'=W):=qL
 have HB:=za (zb (Below.refl w.heap.size w) (.mapIter none 0 #[] 0))
 go_enter Tryz.func373,Tryz.ntmps373
 go_wp2
 refine wp_loop_rounds 1 ?_
 rw [rounds_succ]
 go_wp2_with (go_at_call 242; (with_reducible refine (HSRT0.out _ _).mono ?_); rintro e w' ⟨rfl,rfl⟩)
 go_ret
 exact ⟨_,rfl,World.ownsRow_nil _ _ _ _,HB.out⟩
end Go.Proofs.YteegkoicalbkbaaGreatDoor
namespace Go.Proofs.YteegkoicalbkbaaGreatDoor
open Go.RowKit Go.Maps

theorem qE {n:List UInt8} (h:zh n=true):n.length≤12:=by
 unfold zh uE at h
 simp only [Bool.and_eq_true,decide_eq_true_eq] at h
 exact h.1.1.2.1
theorem uT {s:ByteArray} (h:zh s.data.toList=true):s.size≤1000:=by
 have:=qE h
 rw [zx] at this
 omega

theorem qb.goes {w w2 w':World} {B b:Nat} {p:Option Nat} {T:zq} {k:List UInt8} {l:zI} (h:qb w2 B p (yR T k (b,l)) w') (hb:Below w.heap.size w w2) (hbn:w.heap.size≤b):zN w B p T (yR (z8 T) k l) w':=by
 obtain ⟨p',hd,hp,ht⟩:=h
 refine ⟨p',_,hd,plain10_put T k (b,l),fun c e=>(hp c e).imp id (fun h=>Nat.le_trans hb.size h),fun x hx=>?_,(zg.of_below hb _).next ht (fun i _ h=>h.elim .inl (fun h=>.inr (.inl h)))⟩
 rcases yM.1 hx with rfl | ⟨hx,_⟩
 ·
  exact .inr hbn
 ·
  exact .inl ⟨x,hx,rfl⟩
theorem gdrop10 {w:World} {B:Nat} {p:Option Nat} {T:zq} (h:zO w B p T) (s:ByteArray) (hs:s.size≤maxLen) (ty:TypeId) :
  ∃ w',(Builtin.delete_ #[276,9] ty #[.map p,.string s]).run Tryz.prog w=.ok (.tuple #[]) w'∧zN w B p T (xF (z8 T) s.data.toList) w':=by
 cases p with
 | none =>
  have hL:=h.nil rfl
  subst hL
  exact ⟨w,Maps.drop_nil xM Tryz.underlying276 (Zb s hs) ty,zN.still h (Below.refl _ _)⟩
 | some m =>
  obtain ⟨w',hrun,hown,ht⟩:=(h.map m rfl).drop xM Tryz.underlying276 (Zb s hs) ty
  rw [QF] at hown
  have htn:zg (fun i=>i=m) w w':=(zg.refl _ w).grown ht.grown (fun k hk _=>by cases hk; rfl)
  refine ⟨w',hrun,some m,xF T s.data.toList,⟨(htn.block B h.lt (fun e=>h.mne m rfl e.symm)).trans h.blk,(fun e=>nomatch e),fun c hc=>?_,fun x hx=>?_,fun x hx y hy=>h.one x (yu.1 hx).1 y (yu.1 hy).1,fun x hx=>h.off x (yu.1 hx).1,yo h.rise _⟩,plain10_del T _,(fun _ e=>.inl e),fun x hx=>.inl ⟨x,(yu.1 hx).1,rfl⟩,((zg.refl _ w).next htn fun i _ e=>.inr (.inl (by rw [e])))⟩
  ·
   cases hc
   have:=vI hown
   rwa [vK] at this
  ·
   have hx':=(yu.1 hx).1
   exact (h.sets x hx').kept (htn.block _ (h.slt x hx') (fun e=>h.off x hx' (by rw [e])))
theorem zN.set {w w1 w':World} {B:Nat} {p:Option Nat} {T:zq} (h:zO w B p T) (hb:Below w.heap.size w w1) {x:List UInt8×(Nat×zI)} (hx:x∈T) (f:zI→zI) (hs:zY w' x.2.1 (f x.2.2)) (ht:zg (fun i=>i=x.2.1) w1 w'):zN w B p T (Y6 f (z8 T) x.1) w':=by
 refine ⟨p,_,(h.later hb).turned hx f hs ht,plain10_upd f T x.1,(fun _ e=>.inl e),fun y hy=>.inl ?_,(zg.of_below hb _).next ht (fun i _ e=>.inr (.inr ⟨x,hx,e.symm⟩))⟩
 obtain ⟨q,hq,rfl⟩:=fP hy
 refine ⟨q,hq,?_⟩
 show q.2.1=(if q.1=x.1 then (q.2.1,f q.2.2) else q.2).1
 split <;> rfl
theorem at10 {T:zq} {k:List UInt8} (h:zz T k=true):∃ x∈T,x.1=k:=vf.1 h

set_option maxRecDepth 100000 in
theorem JD (B:Nat) (p:Option Nat) (T:zq) (g:ByteArray) (w:World) (h:zO w B p T) (hf:T.length≤6) (hg:g.size≤9223372036854775807) :
  Calls Tryz.prog 160 #[.pointer (some ⟨B,0,none⟩),.string g] w fun e w'=>e=.returned (.int .i64 (qv (z8 T) g.data.toList))∧zN w B p T (jg (z8 T) g.data.toList) w':=by
 have HI:=za h
 have HB0:Hid (Below w.heap.size w (w.alloc (.cells #[.string g] 9))):=zb (Below.refl _ _) _
 have HN:=za (um w.heap.size g _ hg (show (w.alloc (.cells #[.string g] 9)).cell? ⟨w.heap.size,0,none⟩=some (.string g) by rw [World.cell?_alloc_at _ _ _ _ rfl]; rfl))
 have HLK:Hid (∀ W,Below w.heap.size w W→(Instr.lookup 276 (.map p) (.string g) true).run Tryz.prog W=.ok (.tuple #[.map (uX T g.data.toList),.bool (zz T g.data.toList)]) W):=fun W hb=>look10 (h.later hb) g (Nat.le_trans hg (by decide))
 have HLE:Hid (∀ W ty,Below w.heap.size w W→(Builtin.len_ #[276] ty #[.map p]).run Tryz.prog W=.ok (.int .i64 T.length) W):=fun W ty hb=>len10 (h.later hb) ty
 have hmm:=@run_makeMap Tryz.prog
 unfold jg qv
 rw [vV,uR]
 have HPT:Hid (zh g.data.toList=true→∀ W,Below w.heap.size w W→Calls Tryz.prog 198 #[.pointer (some ⟨B,0,none⟩),.string g,.map (some W.heap.size)] (W.alloc (.map #[] 0)) fun e w'=>e=.returned (.tuple #[])∧zN w B p T (yR (z8 T) g.data.toList []) w'):=fun hn W hb=>by
  have hb2:Below w.heap.size w (W.alloc (.map #[] 0)):=z7 hb (zb (Below.refl _ _) _)
  refine (put10_calls B W.heap.size p T [] g _ (h.later hb2) (set10_made W) (fun x hx e=>?_) (fun e=>?_) (by omega) (uT hn)).mono fun e w' ⟨he,hp⟩=>⟨he,hp.goes hb2 hb.size⟩
  ·
   have:=h.slt x hx; have:=hb.size; omega
  ·
   have:=h.mlt _ e; have:=hb.size; omega
 clear h
 generalize uX T g.data.toList=o at *
 generalize zz T g.data.toList=b at *
 generalize zh g.data.toList=a at *
 generalize yR (z8 T) g.data.toList []=S2 at *
 cases a with
 | false =>
  show Calls _ _ _ _ fun e w'=>e=.returned (.int .i64 10)∧zN w B p T (z8 T) w'
  go_enter Tryz.func160,Tryz.ntmps160
  go_wp2_with fail
  with_reducible refine HN.out.mono ?_
  rintro e w1 ⟨rfl,hb⟩
  have HB:=za (z7 HB0.out hb)
  clear hb HN
  go_wp2
  go_ret
  exact ⟨rfl,zN.still HI.out HB.out⟩
 | true =>
  cases b with
  | true =>
   show Calls _ _ _ _ fun e w'=>e=.returned (.int .i64 9)∧zN w B p T (z8 T) w'
   go_enter Tryz.func160,Tryz.ntmps160
   go_wp2_with fail
   with_reducible refine HN.out.mono ?_
   rintro e w1 ⟨rfl,hb⟩
   have hb1:=z7 HB0.out hb
   have HB:=za hb1
   have c1:=(HI.out.later hb1).cell
   have l1:=HLK.out _ hb1
   clear hb HN HLK hb1
   go_wp2
   go_ret
   exact ⟨rfl,zN.still HI.out HB.out⟩
  | false =>
   by_cases h6:6≤T.length
   ·
    have e7:(if true=true then if false=true then (9:Int) else if 6≤T.length then 7 else 0 else 10)=7:=by simp [h6]
    rw [e7,if_neg (by decide)]
    have z6:(T.length:Int) ≥ 6:=by omega
    have x6:decide ((T.length:Int) ≥ 6)=true:=decide_eq_true z6
    clear e7
    generalize hTL:T.length=tl at *
    have HTL:=za hTL
    clear hTL
    go_enter Tryz.func160,Tryz.ntmps160
    go_wp2_with fail
    with_reducible refine HN.out.mono ?_
    rintro e w1 ⟨rfl,hb⟩
    have hb1:=z7 HB0.out hb
    have HB:=za hb1
    have c1:=(HI.out.later hb1).cell
    have l1:=HLK.out _ hb1
    have l2:=fun ty=>HLE.out _ ty hb1
    clear hb HN HLK hb1 HLE
    go_wp2
    go_ret
    exact ⟨rfl,zN.still HI.out HB.out⟩
   ·
    have e0:(if true=true then if false=true then (9:Int) else if 6≤T.length then 7 else 0 else 10)=0:=by simp [h6]
    rw [e0,if_pos rfl]
    have z6:¬ (T.length:Int) ≥ 6:=by omega
    have x6:decide ((T.length:Int) ≥ 6)=false:=decide_eq_false z6
    have HP2:=za (HPT.out rfl)
    clear e0 HPT
    generalize hTL:T.length=tl at *
    have HTL:=za hTL
    clear hTL
    go_enter Tryz.func160,Tryz.ntmps160
    go_wp2_with fail
    with_reducible refine HN.out.mono ?_
    rintro e w1 ⟨rfl,hb⟩
    have hb1:=z7 HB0.out hb
    have c1:=(HI.out.later hb1).cell
    have l1:=HLK.out _ hb1
    have l2:=fun ty=>HLE.out _ ty hb1
    have HP3:=za (HP2.out _ hb1)
    clear hb HN HLK hb1 HLE HP2
    go_wp2_with fail
    with_reducible refine HP3.out.mono ?_
    rintro e w2 ⟨rfl,hg⟩
    have HG:=za hg
    clear hg HP3 c1 l1 l2
    go_wp2
    go_ret
    exact ⟨rfl,HG.out⟩

set_option maxRecDepth 100000 in
theorem Fb (B:Nat) (p:Option Nat) (T:zq) (g:ByteArray) (w:World) (h:zO w B p T) (hg:g.size≤9223372036854775807) :
  Calls Tryz.prog 364 #[.pointer (some ⟨B,0,none⟩),.string g] w fun e w'=>e=.returned (.int .i64 (uW (z8 T) g.data.toList))∧zN w B p T (fF (z8 T) g.data.toList) w':=by
 have HI:=za h
 have HFN:=za (XD B p T g w h hg)
 have HDR:Hid (∀ W ty,Below w.heap.size w W→∃ w',(Builtin.delete_ #[276,9] ty #[.map p,.string g]).run Tryz.prog W=.ok (.tuple #[]) w'∧zN w B p T (xF (z8 T) g.data.toList) w'):=fun W ty hb=>by
  obtain ⟨w',h1,h2⟩:=gdrop10 (h.later hb) g (Nat.le_trans hg (by decide)) ty
  exact ⟨w',h1,h2.ahead hb⟩
 unfold fF uW
 clear h
 by_cases hE:zV (z8 T) g.data.toList []=0
 ·
  rw [hE] at HFN ⊢
  rw [if_pos rfl] at HFN ⊢
  clear hE
  generalize xF (z8 T) g.data.toList=S2 at *
  generalize uX T g.data.toList=o at *
  go_enter Tryz.func364,Tryz.ntmps364
  go_wp2_with fail
  with_reducible refine HFN.out.mono ?_
  rintro e w1 ⟨rfl,hb⟩
  have c1:=(HI.out.later hb).cell
  obtain ⟨w2,hrun,hg2⟩:=HDR.out w1 0 hb
  have HG:=za hg2
  clear hb hg2 HFN HDR HI
  go_wp2
  go_ret
  exact ⟨rfl,HG.out⟩
 ·
  rw [if_neg hE]
  rw [if_neg hE] at HFN
  generalize zV (z8 T) g.data.toList []=r at *
  go_enter Tryz.func364,Tryz.ntmps364
  go_wp2_with fail
  with_reducible refine HFN.out.mono ?_
  rintro e w1 ⟨rfl,hb⟩
  have HB:=za hb
  clear hb HFN HDR
  go_wp2
  go_ret
  exact ⟨rfl,zN.still HI.out HB.out⟩

set_option maxRecDepth 100000 in
theorem JI (B:Nat) (p:Option Nat) (T:zq) (g n:ByteArray) (w:World) (h:zO w B p T) (hl:∀ x∈T,x.2.2.length≤1000) (hg:g.size≤9223372036854775807) (hn:n.size≤9223372036854775807) :
  Calls Tryz.prog 200 #[.pointer (some ⟨B,0,none⟩),.string g,.string n] w fun e w'=>e=.returned (.int .i64 (qw (z8 T) g.data.toList n.data.toList))∧zN w B p T (qQ (z8 T) g.data.toList n.data.toList) w':=by
 have HI:=za h
 have hb0:Below w.heap.size w (w.alloc (.cells #[.string n] 9)):=zb (Below.refl _ _) _
 have HFN:=za (Uh B p T g w.heap.size n _ (h.later hb0) hg hn (show (w.alloc (.cells #[.string n] 9)).cell? ⟨w.heap.size,0,none⟩=some (.string n) by rw [World.cell?_alloc_at _ _ _ _ rfl]; rfl))
 have HB0:=za hb0
 unfold qQ qw
 clear hb0
 by_cases hE:zV (z8 T) g.data.toList [n.data.toList]=0
 ·
  obtain ⟨z1,z2,z3⟩:=qo hE
  rw [vV] at z3
  obtain ⟨x,hx,hxg⟩:=at10 z3
  have hsz:n.size≤1000:=uT (by simpa using z2)
  have hin:vP (z8 T) g.data.toList n.data.toList=zz x.2.2 n.data.toList:=by
   unfold vP
   rw [← hxg,fw h.rise hx]
  have hblk:uX T g.data.toList=some x.2.1:=by rw [← hxg]; exact vB h.rise hx
  rw [hE,hblk] at HFN
  rw [if_pos rfl] at HFN
  rw [hE,if_pos rfl,hin]
  have HLK:Hid (∀ W,Below w.heap.size w W→(Instr.lookup 274 (.map (some x.2.1)) (.string n) false).run Tryz.prog W=.ok (.bool (zz x.2.2 n.data.toList)) W):=fun W hb=>has10 ((h.sets x hx).kept (hb.block _ (h.slt x hx))) n (Nat.le_trans hn (by decide))
  have HDO:Hid (∀ W,Below w.heap.size w W→Calls Tryz.prog 225 #[.map (some x.2.1),.string n] W fun e w'=>e=.returned (.tuple #[])∧zN w B p T (Y6 (fun l=>yR l n.data.toList ()) (z8 T) x.1) w'):=fun W hb =>
   (qt x.2.1 x.2.2 n W ((h.sets x hx).kept (hb.block _ (h.slt x hx))) (hl x hx) hsz).mono fun e w' ⟨he,h2,h3⟩=>⟨he,zN.set h hb hx (fun l=>yR l n.data.toList ()) h2 h3⟩
  clear h hE z1 z2 z3 hin hblk hsz hl
  rw [hxg] at HDO
  clear hx hxg
  generalize Y6 (fun l=>yR l n.data.toList ()) (z8 T) g.data.toList=S2 at *
  generalize zz x.2.2 n.data.toList=r at *
  generalize x.2.1=b at *
  cases r with
  | true =>
   show Calls _ _ _ _ fun e w'=>e=.returned (.int .i64 9)∧zN w B p T (z8 T) w'
   go_enter Tryz.func200,Tryz.ntmps200
   go_wp2_with fail
   with_reducible refine HFN.out.mono ?_
   rintro e w1 ⟨rfl,hb⟩
   have hb1:=z7 HB0.out hb
   have HB:=za hb1
   have l1:=HLK.out _ hb1
   clear hb hb1 HFN HLK HDO
   go_wp2
   go_ret
   exact ⟨rfl,zN.still HI.out HB.out⟩
  | false =>
   show Calls _ _ _ _ fun e w'=>e=.returned (.int .i64 0)∧zN w B p T S2 w'
   go_enter Tryz.func200,Tryz.ntmps200
   go_wp2_with fail
   with_reducible refine HFN.out.mono ?_
   rintro e w1 ⟨rfl,hb⟩
   have hb1:=z7 HB0.out hb
   have l1:=HLK.out _ hb1
   have HD1:=za (HDO.out _ hb1)
   clear hb hb1 HFN HLK HDO
   go_wp2_with fail
   with_reducible refine HD1.out.mono ?_
   rintro e w2 ⟨rfl,hg⟩
   have HG:=za hg
   clear hg HD1 l1
   go_wp2
   go_ret
   exact ⟨rfl,HG.out⟩
 ·
  rw [if_neg hE,if_neg hE]
  rw [if_neg hE] at HFN
  clear h
  generalize zV (z8 T) g.data.toList [n.data.toList]=r at *
  go_enter Tryz.func200,Tryz.ntmps200
  go_wp2_with fail
  with_reducible refine HFN.out.mono ?_
  rintro e w1 ⟨rfl,hb⟩
  have HB:=za (z7 HB0.out hb)
  clear hb HFN
  go_wp2
  go_ret
  exact ⟨rfl,zN.still HI.out HB.out⟩

set_option maxRecDepth 100000 in
theorem Qh (B:Nat) (p:Option Nat) (T:zq) (g n:ByteArray) (w:World) (h:zO w B p T) (hg:g.size≤9223372036854775807) (hn:n.size≤9223372036854775807) :
  Calls Tryz.prog 365 #[.pointer (some ⟨B,0,none⟩),.string g,.string n] w fun e w'=>e=.returned (.int .i64 (ZM (z8 T) g.data.toList n.data.toList))∧zN w B p T (ZL (z8 T) g.data.toList n.data.toList) w':=by
 have HI:=za h
 have hb0:Below w.heap.size w (w.alloc (.cells #[.string n] 9)):=zb (Below.refl _ _) _
 have HFN:=za (Uh B p T g w.heap.size n _ (h.later hb0) hg hn (show (w.alloc (.cells #[.string n] 9)).cell? ⟨w.heap.size,0,none⟩=some (.string n) by rw [World.cell?_alloc_at _ _ _ _ rfl]; rfl))
 have HB0:=za hb0
 unfold ZL ZM
 clear hb0
 by_cases hE:zV (z8 T) g.data.toList [n.data.toList]=0
 ·
  obtain ⟨z1,z2,z3⟩:=qo hE
  rw [vV] at z3
  obtain ⟨x,hx,hxg⟩:=at10 z3
  have hsz:n.size≤1000:=uT (by simpa using z2)
  have hin:vP (z8 T) g.data.toList n.data.toList=zz x.2.2 n.data.toList:=by
   unfold vP
   rw [← hxg,fw h.rise hx]
  have hblk:uX T g.data.toList=some x.2.1:=by rw [← hxg]; exact vB h.rise hx
  rw [hE,hblk] at HFN
  rw [if_pos rfl] at HFN
  rw [hE,if_pos rfl,hin]
  have HLK:Hid (∀ W,Below w.heap.size w W→(Instr.lookup 274 (.map (some x.2.1)) (.string n) false).run Tryz.prog W=.ok (.bool (zz x.2.2 n.data.toList)) W):=fun W hb=>has10 ((h.sets x hx).kept (hb.block _ (h.slt x hx))) n (Nat.le_trans hn (by decide))
  have HDO:Hid (∀ W ty,Below w.heap.size w W→∃ w',(Builtin.delete_ #[274,9] ty #[.map (some x.2.1),.string n]).run Tryz.prog W=.ok (.tuple #[]) w'∧zN w B p T (Y6 (fun l=>xF l n.data.toList) (z8 T) x.1) w'):=fun W ty hb=>by
   obtain ⟨w',h1,h2,h3⟩:=drop10 ((h.sets x hx).kept (hb.block _ (h.slt x hx))) n (Nat.le_trans hn (by decide)) ty
   exact ⟨w',h1,zN.set h hb hx (fun l=>xF l n.data.toList) h2 ((zg.refl _ W).grown h3.grown (fun k hk _=>by cases hk; rfl))⟩
  clear h hE z1 z2 z3 hin hblk hsz
  rw [hxg] at HDO
  clear hx hxg
  generalize Y6 (fun l=>xF l n.data.toList) (z8 T) g.data.toList=S2 at *
  generalize zz x.2.2 n.data.toList=r at *
  generalize x.2.1=b at *
  cases r with
  | false =>
   show Calls _ _ _ _ fun e w'=>e=.returned (.int .i64 12)∧zN w B p T (z8 T) w'
   go_enter Tryz.func365,Tryz.ntmps365
   go_wp2_with fail
   with_reducible refine HFN.out.mono ?_
   rintro e w1 ⟨rfl,hb⟩
   have hb1:=z7 HB0.out hb
   have HB:=za hb1
   have l1:=HLK.out _ hb1
   clear hb hb1 HFN HLK HDO
   go_wp2
   go_ret
   exact ⟨rfl,zN.still HI.out HB.out⟩
  | true =>
   show Calls _ _ _ _ fun e w'=>e=.returned (.int .i64 0)∧zN w B p T S2 w'
   go_enter Tryz.func365,Tryz.ntmps365
   go_wp2_with fail
   with_reducible refine HFN.out.mono ?_
   rintro e w1 ⟨rfl,hb⟩
   have hb1:=z7 HB0.out hb
   have l1:=HLK.out _ hb1
   obtain ⟨w2,hrun,hg2⟩:=HDO.out w1 0 hb1
   have HG:=za hg2
   clear hb hb1 HFN HLK HDO hg2
   go_wp2
   go_ret
   exact ⟨rfl,HG.out⟩
 ·
  rw [if_neg hE,if_neg hE]
  rw [if_neg hE] at HFN
  clear h
  generalize zV (z8 T) g.data.toList [n.data.toList]=r at *
  go_enter Tryz.func365,Tryz.ntmps365
  go_wp2_with fail
  with_reducible refine HFN.out.mono ?_
  rintro e w1 ⟨rfl,hb⟩
  have HB:=za (z7 HB0.out hb)
  clear hb HFN
  go_wp2
  go_ret
  exact ⟨rfl,zN.still HI.out HB.out⟩

set_option maxRecDepth 100000 in
theorem Xk (B:Nat) (p:Option Nat) (T:zq) (g:ByteArray) (w:World) (h:zO w B p T) (hs:∀ x∈T,zJ x.2.2) (hl:∀ x∈T,x.2.2.length≤1000) (hg:g.size≤9223372036854775807) :
  Calls Tryz.prog 367 #[.pointer (some ⟨B,0,none⟩),.string g] w fun e w'=>∃ v,e=.returned (.tuple #[v,.int .i64 (uW (z8 T) g.data.toList)])∧w'.ownsRow w.heap.size 9 1 v (fy (z8 T) g.data.toList).length ((fy (z8 T) g.data.toList).map encStr)∧Below w.heap.size w w':=by
 have HFN:=za (XD B p T g w h hg)
 have HRS:Hid (∀ W,Below w.heap.size w W→Calls Tryz.prog 373 #[.map (if zV (z8 T) g.data.toList []=0 then uX T g.data.toList else none),.slice none 0 0] W (zT (fy (z8 T) g.data.toList) W)):=fun W hb=>by
  unfold fy uW
  by_cases hE:zV (z8 T) g.data.toList []=0
  ·
   obtain ⟨z1,z2,z3⟩:=qo hE
   rw [vV] at z3
   obtain ⟨x,hx,hxg⟩:=at10 z3
   rw [if_pos hE,if_pos hE,← hxg,vB h.rise hx,fw h.rise hx]
   have:=UP x.2.1 x.2.2 (fun _=>true) (.slice none 0 0) W (hs x hx) (hl x hx) ((h.sets x hx).kept (hb.block _ (h.slt x hx))) (fun W' _ y _=>everyb_none true W')
   rwa [List.filter_eq_self.2 (fun _ _=>rfl)] at this
  ·
   rw [if_neg hE,if_neg hE]
   exact riseb10_nil _ W
 unfold uW at *
 clear h hs hl
 generalize fy (z8 T) g.data.toList=ls at *
 generalize (if zV (z8 T) g.data.toList []=0 then uX T g.data.toList else none)=o at *
 generalize zV (z8 T) g.data.toList []=r at *
 go_enter Tryz.func367,Tryz.ntmps367
 go_wp2_with fail
 with_reducible refine HFN.out.mono ?_
 rintro e w1 ⟨rfl,hb⟩
 have HB:=za hb
 have HR1:=za (HRS.out w1 hb)
 clear hb HFN HRS
 go_wp2_with fail
 with_reducible refine HR1.out.mono ?_
 rintro e w2 ⟨v,rfl,hr,hb⟩
 have HO:=za (zy hr HB.out.size)
 have HB2:=za (z7 HB.out hb)
 obtain ⟨A,c,rfl⟩:∃ A c,v=.slice A ls.length c:=by
  rcases hr.2 with ⟨rfl,hz⟩ | ⟨g,cap,cur,rfl,_⟩
  ·
   exact ⟨none,0,by rw [hz]⟩
  ·
   exact ⟨_,cap,rfl⟩
 clear hr hb HR1
 go_wp2
 go_ret2
 exact ⟨_,rfl,HO.out,HB2.out⟩

set_option maxRecDepth 100000 in
theorem all10_calls (B:Nat) (p:Option Nat) (T:zq) (w:World) (h:zO w B p T) (hf:T.length≤1000) :
  Calls Tryz.prog 374 #[.pointer (some ⟨B,0,none⟩)] w (zT (zc (z8 T)) w):=by
 have HRS:Hid (Calls Tryz.prog 331 #[.map p,.slice none 0 0] w (zT (zc (z8 T)) w)):=by
  rw [vc]
  cases p with
  | none =>
   have:=h.nil rfl
   subst this
   exact X4 _ w
  | some m =>
   have:=fY m T (fun _=>true) (.slice none 0 0) w h.rise hf (h.map m rfl) (fun W' _ y _=>everys_none _ W')
   rwa [List.filter_eq_self.2 (fun _ _=>rfl)] at this
 have hc:=h.cell
 clear h
 generalize zc (z8 T)=ls at *
 go_enter Tryz.func374,Tryz.ntmps374
 go_wp2_with fail
 with_reducible refine HRS.out.mono ?_
 rintro e w2 ⟨v,rfl,hr,hb⟩
 have HN:Hid (zT ls w (.returned v) w2):=⟨v,rfl,hr,hb⟩
 obtain ⟨A,c,rfl⟩:∃ A c,v=.slice A ls.length c:=by
  rcases hr.2 with ⟨rfl,hz⟩ | ⟨g,cap,cur,rfl,_⟩
  ·
   exact ⟨none,0,by rw [hz]⟩
  ·
   exact ⟨_,cap,rfl⟩
 clear hr hb HRS hc
 generalize hn:ls.length=n at *
 clear hn
 go_wp2
 go_ret
 exact HN.out

theorem of10_rows (T:zq) (n:List UInt8):zc (T.filter fun x=>zz x.2.2 n)=yS (z8 T) n:=by
 unfold yS ofs10 z8 zc
 rw [List.filter_map,List.map_map]
 rfl
def YOf10 (B:Nat) (p:Option Nat) (n:ByteArray) (ls:List (List UInt8)) (w:World):Nat→Value→World→Prop
 | 3,v,_=>v=.map p
 | 4,v,_=>v=.string n
 | 5,v,W=>∃ C,v=.func (.func 335) #[] #[.pointer (some ⟨C,0,none⟩)]∧W.cell? ⟨C,0,none⟩=some (.string n)
 | 6,v,W=>∃ A C,v=.slice (some ⟨A,0,none⟩) 1 1∧W.cell? ⟨A,0,none⟩=some (.func (.func 335) #[] #[.pointer (some ⟨C,0,none⟩)])∧W.cell? ⟨C,0,none⟩=some (.string n)
 | 7,v,W=>zT ls w (.returned v) W
 | 8,v,W=>zT ls w (.returned v) W
 | _,v,_=>v=.pointer (some ⟨B,0,none⟩)
theorem zT.later {ls:List (List UInt8)} {w W W':World} {e:Ending} (h:zT ls w e W) (hb:Below W.heap.size W W'):zT ls w e W':=by
 obtain ⟨v,he,hr,hbw⟩:=h
 exact ⟨v,he,xz hr hb,z7 hbw hb⟩
theorem ZY {B:Nat} {p:Option Nat} {n:ByteArray} {ls:List (List UInt8)} {w W W':World} (hb:Below W.heap.size W W') (j:Nat) (u:Value) (h:YOf10 B p n ls w j u W):YOf10 B p n ls w j u W':=by
 have key:∀ (C:Nat) (v:Value),W.cell? ⟨C,0,none⟩=some v→W'.cell? ⟨C,0,none⟩=some v:=fun C v hC=>(hb.cell (p:=⟨C,0,none⟩) (World.block_lt_of_cell? W _ hC)).trans hC
 match j,h with
 | 0,h=>exact h
 | 1,h=>exact h
 | 2,h=>exact h
 | 3,h=>exact h
 | 4,h=>exact h
 | 5,h=>obtain ⟨C,e,hC⟩:=h; exact ⟨C,e,key C _ hC⟩
 | 6,h=>obtain ⟨A,C,e,hA,hC⟩:=h; exact ⟨A,C,e,key A _ hA,key C _ hC⟩
 | 7,h=>exact zT.later h hb
 | 8,h=>exact zT.later h hb
 | _+9,h=>exact h

set_option maxRecDepth 100000 in
theorem jN (B:Nat) (p:Option Nat) (T:zq) (n:ByteArray) (w:World) (h:zO w B p T) (hf:T.length≤1000) (hn:n.size≤9223372036854775807) :
  Calls Tryz.prog 328 #[.pointer (some ⟨B,0,none⟩),.string n] w (zT (yS (z8 T) n.data.toList) w):=by
 have HRS:Hid (∀ W A C,Below w.heap.size w W→W.cell? ⟨A,0,none⟩=some (.func (.func 335) #[] #[.pointer (some ⟨C,0,none⟩)])→W.cell? ⟨C,0,none⟩=some (.string n) →
   Calls Tryz.prog 331 #[.map p,.slice (some ⟨A,0,none⟩) 1 1] W (zT (yS (z8 T) n.data.toList) W)):=fun W A C hb hA hC=>by
  have lA:A<W.heap.size:=World.block_lt_of_cell? W _ hA
  have lC:C<W.heap.size:=World.block_lt_of_cell? W _ hC
  rw [← of10_rows]
  cases p with
  | none =>
   have:=h.nil rfl
   subst this
   exact X4 _ W
  | some m =>
   exact fY m T (fun x=>zz x.2.2 n.data.toList) _ W h.rise hf ((h.later hb).map m rfl) (fun W' hb' y hy=>everys_one A C y.2.1 y.2.2 n W' (Nat.le_trans hn (by decide)) ((hb'.cell (p:=⟨A,0,none⟩) lA).trans hA) ((hb'.cell (p:=⟨C,0,none⟩) lC).trans hC) (((h.later hb).later hb').sets y hy))
 have HI:=za h
 have HFN:Hid (∀ W,Calls Tryz.prog 332 #[.string n] W fun e w'=>e=.returned (.func (.func 335) #[] #[.pointer (some ⟨W.heap.size,0,none⟩)])∧w'=W.alloc (.cells #[.string n] 9)):=fun W=>hasfn_calls n W
 clear h
 generalize yS (z8 T) n.data.toList=ls at *
 go_enter Tryz.func328,Tryz.ntmps328
 go_wp2_with fail
 refine yY (by kernel_rfl) (fun W=>Below w.heap.size w W) (YOf10 B p n ls w) ?F ?hF (by kernel_rfl) (by kernel_rfl) (zM (Below.refl _ _)) ?step ?fin
 case hF =>
  intro x
  simp only [List.map_cons,List.map_nil,vb,Act.put,List.setIfInBounds_toArray,List.set_cons_zero,List.set_cons_succ,Nat.zero_add,Nat.reduceAdd]
  exact rfl
 case step =>
  refine ⟨?_,?_,?_,?_,?_,?_,?_,?_,?_,trivial⟩
  all_goals intro x W hW hdep K hK
  ·
   clear hdep
   go_simp
   exact hK _ _ rfl hW (fun _ _ h=>h)
  ·
   have h0:x 0=_:=hdep 0 rfl
   clear hdep
   simp only [h0] at hK
   go_simp
   exact hK _ _ rfl hW (fun _ _ h=>h)
  ·
   have h1:x 1=_:=hdep 1 rfl
   clear hdep
   simp only [h1] at hK
   go_simp
   exact hK _ _ rfl hW (fun _ _ h=>h)
  ·
   have h2:x 2=_:=hdep 2 rfl
   have c:=(HI.out.later hW).cell
   clear hdep
   simp only [h2] at hK
   go_simp
   exact hK _ _ rfl hW (fun _ _ h=>h)
  ·
   clear hdep
   go_simp
   exact hK _ _ rfl hW (fun _ _ h=>h)
  ·
   have h4:x 4=_:=hdep 4 rfl
   have hc:=HFN.out W
   clear hdep
   simp only [h4] at hK
   go_simp
   refine hc.mono ?_
   rintro e W' ⟨rfl,rfl⟩
   have hb:Below W.heap.size W (W.alloc (.cells #[.string n] 9)):=zb (Below.refl _ _) _
   exact hK _ _ ⟨W.heap.size,rfl,by rw [World.cell?_alloc_at _ _ _ _ rfl]; rfl⟩ (z7 hW hb) (ZY hb)
  ·
   obtain ⟨C,h5,hC⟩:=(show YOf10 B p n ls w 5 (x 5) W from hdep 5 rfl)
   simp only [h5] at hK
   have lC:C<W.heap.size:=World.block_lt_of_cell? W _ hC
   clear hdep
   go_simp
   have hb:Below W.heap.size W (W.alloc (.cells #[.func (.func 335) #[] #[.pointer (some ⟨C,0,none⟩)]] 375)):=zb (Below.refl _ _) _
   exact hK _ _ ⟨W.heap.size,C,rfl,by rw [World.cell?_alloc_at _ _ _ _ rfl]; rfl,(hb.cell (p:=⟨C,0,none⟩) lC).trans hC⟩ (z7 hW hb) (ZY hb)
  ·
   have h3:x 3=_:=hdep 3 rfl
   obtain ⟨A,C,h6,hA,hC⟩:=(show YOf10 B p n ls w 6 (x 6) W from hdep 6 rfl)
   have hc:=HRS.out W A C hW hA hC
   simp only [h6] at hK
   clear hdep
   simp only [h3] at hK
   go_simp
   refine hc.mono ?_
   rintro e W' ⟨v,rfl,hr,hb⟩
   exact hK _ _ ⟨v,rfl,zy hr hW.size,z7 hW hb⟩ (z7 hW hb) (ZY hb)
  ·
   have h7:zT ls w (.returned (x 7)) W:=hdep 7 rfl
   clear hdep
   go_simp
   exact hK _ _ h7 hW (fun _ _ h=>h)
 case fin =>
  intro x W hW hY
  have h8:zT ls w (.returned (x 8)) W:=hY 8 (by decide)
  obtain ⟨v,he,hr,hb⟩:=h8
  injection he with he
  have HN:Hid (zT ls w (.returned v) W):=⟨v,rfl,hr,hb⟩
  clear hY hW HI HFN HRS hr hb
  rw [he]
  go_wp2
  go_ret
  exact HN.out

def uA (f:zI→zI) (ls:List (List UInt8)) (T:zq):zq:=T.map fun x=>if x.1∈ls then (x.1,(x.2.1,f x.2.2)) else x
theorem YQ (f:zI→zI) (T:zq):uA f [] T=T:=by
 unfold uA
 simp
theorem fV {f:zI→zI} {ls:List (List UInt8)} {T:zq} {x:List UInt8×(Nat×zI)} (hx:x∈T) (hn:x.1∉ls):x∈uA f ls T:=List.mem_map.2 ⟨x,hx,if_neg hn⟩
theorem YR {f:zI→zI} {ls:List (List UInt8)} {T:zq} {y:List UInt8×(Nat×zI)} (hy:y∈uA f ls T):∃ x∈T,x.2.1=y.2.1:=by
 obtain ⟨x,hx,rfl⟩:=List.mem_map.1 hy
 refine ⟨x,hx,?_⟩
 split <;> rfl
theorem stepT_snoc {f:zI→zI} {ls:List (List UInt8)} {T:zq} {k:List UInt8} (hk:k∉ls):Y6 (fun v=>(v.1,f v.2)) (uA f ls T) k=uA f (ls++[k]) T:=by
 unfold uA Y6
 rw [List.map_map]
 refine List.map_congr_left fun x _=>?_
 by_cases e:x.1∈ls
 ·
  have hne:x.1≠k:=fun e'=>hk (e' ▸ e)
  simp [e,hne]
 ·
  by_cases e':x.1=k
  ·
   subst e'
   simp [e]
  ·
   simp [e,e']
theorem YP (f:zI→zI) (ls:List (List UInt8)) (T:zq):z8 (uA f ls T)=(z8 T).map fun p=>if p.1∈ls then (p.1,f p.2) else p:=by
 unfold z8 uA
 rw [List.map_map,List.map_map]
 refine List.map_congr_left fun x _=>?_
 by_cases e:x.1∈ls <;> simp [e]
theorem UH {S:zn} (hr:zJ S) (n:List UInt8) {p:List UInt8×zI} (hp:p∈S):p.1∈yS S n↔zz p.2 n=true:=by
 rw [xd hr]
 unfold vP
 rw [ql hr hp]
theorem removed_all {T:zq} (hr:zJ (z8 T)) (n:List UInt8):z8 (uA (fun l=>xF l n) (yS (z8 T) n) T)=qN (z8 T) n:=by
 rw [YP]
 unfold qN
 refine List.map_congr_left fun p hp=>?_
 by_cases e:p.1∈yS (z8 T) n
 ·
  rw [if_pos e]
 ·
  rw [if_neg e,XH]
  cases h:zz p.2 n
  ·
   rfl
  ·
   exact absurd ((UH hr n hp).2 h) e
theorem renamed_all {T:zq} (hr:zJ (z8 T)) (o n:List UInt8):z8 (uA (fun l=>yR (xF l o) n ()) (yS (z8 T) o) T)=(z8 T).map fun p=>(p.1,fZ o n p.2):=by
 rw [YP]
 refine List.map_congr_left fun p hp=>?_
 unfold fZ
 by_cases e:p.1∈yS (z8 T) o
 ·
  rw [if_pos e,if_pos ((UH hr o hp).1 e)]
 ·
  rw [if_neg e]
  cases h:zz p.2 o
  ·
   rfl
  ·
   exact absurd ((UH hr o hp).2 h) e
theorem Zz {l:List (List UInt8)} (h:un l) {k:Nat} (hk:k<l.length):l[k]∉l.take k:=by
 intro hm
 obtain ⟨j,hj,e⟩:=List.getElem_of_mem hm
 rw [List.getElem_take] at e
 have hjk:j<k:=by simp at hj; omega
 have:=List.pairwise_iff_getElem.1 h j k (by omega) hk hjk
 rw [e,zB] at this
 cases this
theorem row10 {w:World} {base:Nat} {v:Value} {ls:List (List UInt8)} (h:w.ownsRow base 9 1 v ls.length (ls.map encStr)) :
  (v=.slice none 0 0∧ls=[])∨∃ g cap cur,v=.slice (some ⟨g,0,none⟩) ls.length cap∧base≤g∧w.heap[g]? = some (.cells cur 9 (0,0))∧∀ j (h:j<ls.length),cur[j]? = some (.string (yl ls[j])):=by
 rcases h.2 with ⟨rfl,hz⟩ | ⟨g,cap,cur,rfl,hb,hg,r1,r2,r3,r4⟩
 ·
  exact .inl ⟨rfl,List.eq_nil_of_length_eq_zero hz⟩
 ·
  refine .inr ⟨g,cap,cur,rfl,hb,hg,fun j hj=>?_⟩
  have h2:(List.take (ls.length * 1) cur.toList)[j]? = some (.string (yl ls[j])):=by rw [r4]; simp [hj,encStr,yl]
  rw [List.getElem?_take,if_pos (by omega)] at h2
  simpa using h2
theorem fW {w wr:World} {base:Nat} {v:Value} {ls:List (List UInt8)} {S:Nat→Prop} (h:w.ownsRow base 9 1 v ls.length (ls.map encStr)) (ht:zg S w wr) (hS:∀ i c T fr,w.heap[i]? = some (.cells c T fr)→T=9→¬ S i) {k:Nat} (hk:k<ls.length) :
  ∃ g cap,v=.slice (some ⟨g,0,none⟩) ls.length cap∧wr.cell? ⟨g,k,none⟩=some (.string (yl ls[k])):=by
 rcases row10 h with ⟨_,rfl⟩ | ⟨g,cap,cur,rfl,_,hg,hc⟩
 ·
  exact absurd hk (Nat.not_lt_zero _)
 ·
  refine ⟨g,cap,rfl,?_⟩
  have h1:wr.heap[g]? = some (.cells cur 9 (0,0)):=(ht.block g (Array.getElem?_eq_some_iff.1 hg).1 (hS g _ _ _ hg rfl)).trans hg
  have h2:=hc k hk
  simp [World.cell?,h1,h2]
theorem xG {w:World} {base:Nat} {v:Value} {ls:List (List UInt8)} (h:w.ownsRow base 9 1 v ls.length (ls.map encStr)):∃ A c,v=.slice A ls.length c:=by
 rcases row10 h with ⟨rfl,rfl⟩ | ⟨g,cap,cur,rfl,_⟩
 ·
  exact ⟨none,0,rfl⟩
 ·
  exact ⟨_,cap,rfl⟩
theorem zO.step {w w':World} {B:Nat} {p:Option Nat} {T:zq} {f:zI→zI} {ls:List (List UInt8)} (h:zO w B p (uA f ls T)) {x:List UInt8×(Nat×zI)} (hx:x∈T) (hn:x.1∉ls) (hs:zY w' x.2.1 (f x.2.2)) (ht:zg (fun i=>i=x.2.1) w w'):zO w' B p (uA f (ls++[x.1]) T):=by
 have:=h.turned (fV hx hn) f hs ht
 rwa [stepT_snoc hn] at this

set_option maxRecDepth 100000 in
theorem Vc (B:Nat) (p:Option Nat) (T:zq) (n:ByteArray) (w:World) (h:zO w B p T) (hf:T.length≤1000) (hnm:∀ x∈T,x.1.length≤1000) (hn:n.size≤9223372036854775807) :
  Calls Tryz.prog 320 #[.pointer (some ⟨B,0,none⟩),.string n] w fun e w'=>e=.returned (.int .i64 ((yS (z8 T) n.data.toList).length:Nat))∧zN w B p T (qN (z8 T) n.data.toList) w':=by
 have HOF:=za (jN B p T n w h hf hn)
 have hrs:zJ (z8 T):=xH h.rise (vc T)
 have HRM:=za (removed_all hrs n.data.toList)
 have HNZ:Hid (n.size≤maxLen):=Nat.le_trans hn (by decide)
 have HI:=za h
 have HTL0:Hid (∀ g∈yS (z8 T) n.data.toList,∃ x∈T,x.1=g):=fun g hg=>by
  have:=jM hg
  rw [vc] at this
  obtain ⟨x,hx,e⟩:=List.mem_map.1 this
  exact ⟨x,hx,e⟩
 have HRL:Hid (un (yS (z8 T) n.data.toList)):=xW hrs _
 obtain ⟨l,hl⟩:∃ l,yS (z8 T) n.data.toList=l:=⟨_,rfl⟩
 rw [hl] at HOF HRM HTL0 HRL ⊢
 have HL:=za hl
 have HTL:Hid (∀ k (h:k<l.length),∃ x∈T,x.1=l[k]):=fun k hk=>HTL0.out _ (List.getElem_mem hk)
 have HLN:Hid (∀ g∈l,g.length≤maxLen):=fun g hg=>by
  obtain ⟨x,hx,e⟩:=HTL0.out g hg
  rw [← e]
  exact Nat.le_trans (hnm x hx) (by decide)
 have HB1:=za (Below.refl w.heap.size w)
 clear h hrs hl HTL0 hn hnm
 go_enter Tryz.func320,Tryz.ntmps320
 go_wp2_with fail
 with_reducible refine HOF.out.mono ?_
 rintro e w1 ⟨v,rfl,hr,hb⟩
 have HRO:=za hr
 have HB2:=za (z7 HB1.out hb)
 have HI2:=za (HI.out.later (z7 HB1.out hb))
 obtain ⟨A,c,rfl⟩:=xG hr
 have hcl:l.length≤T.length:=by rw [← HL.out]; exact Nat.le_trans (ZE _ _) (Nat.le_of_eq (uR T))
 obtain ⟨len,hlen⟩:∃ len,len=l.length:=⟨_,rfl⟩
 rw [← hlen] at hcl ⊢
 have HLEN:=za hlen
 have hlz:len≤1000:=by omega
 have HCL:=za hcl
 clear hr hb hlen hcl
 clear HOF
 go_wp2
 go_loopg [13] len (fun gg s13 wr=>∃ k:Nat,k≤len∧len - k≤gg∧s13=.int .i64 k∧Hid (zO wr B p (uA (fun l=>xF l n.data.toList) (l.take k) T))∧Hid (zg (fun i=>∃ x∈T,x.2.1=i) w1 wr))
 case atStart=>exact ⟨0,Nat.zero_le _,by omega,rfl,(by show zO _ _ _ _; rw [List.take_zero,YQ]; exact HI2.out),zg.refl _ _⟩
 case round =>
  obtain ⟨k,hk,hg,rfl,HG,HT⟩:=hrel
  by_cases hlt:k<len
  ·
   have hltz:(k:Int)<(len:Int):=by omega
   have hkl:k<l.length:=HLEN.out ▸ hlt
   obtain ⟨x,hx,hxn⟩:=HTL.out k hkl
   have hnot:l[k]∉l.take k:=Zz HRL.out hkl
   have hxk:x∈uA (fun l=>xF l n.data.toList) (l.take k) T:=fV hx (by rw [hxn]; exact hnot)
   obtain ⟨g,cap,e2,x0⟩:=fW HRO.out HT.out (fun i c0 T0 fr hi _ hS=>by obtain ⟨y,hy,e⟩:=hS; exact zL (HI2.out.sets y hy) hi e) hkl
   injection e2 with e2 e2n e2c
   subst e2
   clear e2n e2c
   have c0:=HG.out.cell
   have htk:l.take (k+1)=l.take k++[x.1]:=by rw [List.take_succ_eq_append_getElem hkl,hxn]
   have l1:=Xo HG.out (yl l[k]) (by rw [xT]; exact HLN.out _ (List.getElem_mem hkl))
   rw [zS,← hxn,vB HG.out.rise hxk] at l1
   rw [← hxn] at x0
   obtain ⟨w5,hrun,hs5,ht5⟩:=drop10 (HG.out.sets x hxk) n HNZ.out 0
   have ht5':zg (fun i=>i=x.2.1) wr w5:=(zg.refl _ wr).grown ht5.grown (fun k hk _=>by cases hk; rfl)
   have HG2:Hid (zO w5 B p (uA (fun l=>xF l n.data.toList) (l.take (k+1)) T)):=by
    show zO _ _ _ _
    rw [htk]
    exact HG.out.step hx (by rw [hxn]; exact hnot) hs5 ht5'
   have HT2:Hid (zg (fun i=>∃ x∈T,x.2.1=i) w1 w5):=HT.out.next ht5' (fun i _ e=>⟨x,hx,e.symm⟩)
   clear hs5 ht5 ht5' htk hxk hx hnot HG HT hxn hkl
   generalize yl x.1=sx at *
   generalize x.2.1=bx at *
   go_wp2
   go_roundg (len - (k+1))
   case measure=>omega
   case rel=>exact ⟨k+1,by omega,by omega,by go_num,HG2,HT2⟩
  ·
   have hltz:¬ (k:Int)<(len:Int):=by omega
   obtain rfl:k=len:=by omega
   have hgd:=HG.out
   rw [List.take_of_length_le (by have:=HLEN.out; omega)] at hgd
   have HF:Hid (zN w B p T (qN (z8 T) n.data.toList) wr):=⟨p,_,hgd,HRM.out,(fun _ e=>.inl e),fun y hy=>.inl (by obtain ⟨x,hx,e⟩:=YR hy; exact ⟨x,hx,e⟩),(zg.of_below HB2.out _).next HT.out (fun i _ e=>.inr (.inr e))⟩
   clear hgd HG HT
   go_wp2
   go_ret
   exact ⟨by rw [← HLEN.out]; rfl,HF.out⟩

set_option maxRecDepth 100000 in
theorem Vb (B:Nat) (p:Option Nat) (T:zq) (o n:ByteArray) (w:World) (h:zO w B p T) (hf:T.length≤1000) (hnm:∀ x∈T,x.1.length≤1000) (hlt:∀ x∈T,x.2.2.length≤1000) (ho:o.size≤9223372036854775807) (hn:n.size≤9223372036854775807) :
  Calls Tryz.prog 363 #[.pointer (some ⟨B,0,none⟩),.string o,.string n] w fun e w'=>e=.returned (.int .i64 (Z4 (z8 T) o.data.toList n.data.toList))∧zN w B p T (ZC (z8 T) o.data.toList n.data.toList) w':=by
 have HOFO:Hid (∀ W,Below w.heap.size w W→Calls Tryz.prog 328 #[.pointer (some ⟨B,0,none⟩),.string o] W (zT (yS (z8 T) o.data.toList) W)):=fun W hb=>jN B p T o W (h.later hb) hf ho
 have HOFN:Hid (∀ W,Below w.heap.size w W→Calls Tryz.prog 328 #[.pointer (some ⟨B,0,none⟩),.string n] W (zT (yS (z8 T) n.data.toList) W)):=fun W hb=>jN B p T n W (h.later hb) hf hn
 have HB0:Hid (Below w.heap.size w (w.alloc (.cells #[.string n] 9))):=zb (Below.refl _ _) _
 have HN:=za (um w.heap.size n _ hn (show (w.alloc (.cells #[.string n] 9)).cell? ⟨w.heap.size,0,none⟩=some (.string n) by rw [World.cell?_alloc_at _ _ _ _ rfl]; rfl))
 have hrs:zJ (z8 T):=xH h.rise (vc T)
 have HRM:=za (renamed_all hrs o.data.toList n.data.toList)
 have HNZ:Hid (o.size≤maxLen):=Nat.le_trans ho (by decide)
 have HI:=za h
 have HLT:=za hlt
 have HTL0:Hid (∀ g∈yS (z8 T) o.data.toList,∃ x∈T,x.1=g):=fun g hg=>by
  have:=jM hg
  rw [vc] at this
  obtain ⟨x,hx,e⟩:=List.mem_map.1 this
  exact ⟨x,hx,e⟩
 have HRL:Hid (un (yS (z8 T) o.data.toList)):=xW hrs _
 obtain ⟨l,hl⟩:∃ l,yS (z8 T) o.data.toList=l:=⟨_,rfl⟩
 rw [hl] at HOFO HRM HTL0 HRL
 have HL:=za hl
 have HTL:Hid (∀ k (h:k<l.length),∃ x∈T,x.1=l[k]):=fun k hk=>HTL0.out _ (List.getElem_mem hk)
 have HLN:Hid (∀ g∈l,g.length≤maxLen):=fun g hg=>by
  obtain ⟨x,hx,e⟩:=HTL0.out g hg
  rw [← e]
  exact Nat.le_trans (hnm x hx) (by decide)
 unfold ZC Z4
 clear h hrs hl HTL0 ho hn hnm hlt
 cases hnn:zh n.data.toList with
 | false =>
  rw [hnn] at HN
  show Calls _ _ _ _ fun e w'=>e=.returned (.int .i64 10)∧zN w B p T (z8 T) w'
  clear hnn
  go_enter Tryz.func363,Tryz.ntmps363
  go_wp2_with fail
  with_reducible refine HN.out.mono ?_
  rintro e w1 ⟨rfl,hb⟩
  have HB:=za (z7 HB0.out hb)
  clear hb HN
  go_wp2
  go_ret
  exact ⟨rfl,zN.still HI.out HB.out⟩
 | true =>
  have HSZ:=za (uT hnn)
  rw [hnn] at HN
  clear hnn
  by_cases e:n.data.toList=o.data.toList
  ·
   have hon:n=o:=by rw [← uN n,e,uN]
   have e0:(if true=true then if n.data.toList≠o.data.toList∧yS (z8 T) n.data.toList≠[] then (9:Int) else 0 else 10)=0:=by simp [e]
   rw [e0,if_pos rfl]
   clear e e0 HOFN
   subst hon
   have n1:(n.toList != n.toList)=false:=by simp
   have n2:(n.toList == n.toList)=true:=by simp
   go_enter Tryz.func363,Tryz.ntmps363
   go_wp2_with fail
   with_reducible refine HN.out.mono ?_
   rintro e w9 ⟨rfl,hb⟩
   have HB1:=za (z7 HB0.out hb)
   have HOF:=za (HOFO.out _ HB1.out)
   clear hb HN HOFO
   go_wp2_with fail
   with_reducible refine HOF.out.mono ?_
   rintro e w1 ⟨v,rfl,hr,hb⟩
   have HRO:=za hr
   have HB2:=za (z7 HB1.out hb)
   have HI2:=za (HI.out.later (z7 HB1.out hb))
   obtain ⟨A,c,rfl⟩:=xG hr
   have hcl:l.length≤T.length:=by rw [← HL.out]; exact Nat.le_trans (ZE _ _) (Nat.le_of_eq (uR T))
   obtain ⟨len,hlen⟩:∃ len,len=l.length:=⟨_,rfl⟩
   rw [← hlen] at hcl ⊢
   have HLEN:=za hlen
   have hlz:len≤1000:=by omega
   have HCL:=za hcl
   clear hr hb hlen hcl
   clear HOF
   go_wp2
   go_loopg [27] len (fun gg s27 wr=>∃ k:Nat,k≤len∧len - k≤gg∧s27=.int .i64 k∧Hid (zO wr B p (uA (fun l=>yR (xF l n.data.toList) n.data.toList ()) (l.take k) T))∧Hid (zg (fun i=>∃ x∈T,x.2.1=i) w1 wr))
   case atStart=>exact ⟨0,Nat.zero_le _,by omega,rfl,(by show zO _ _ _ _; rw [List.take_zero,YQ]; exact HI2.out),zg.refl _ _⟩
   case round =>
    obtain ⟨k,hk,hg,rfl,HG,HT⟩:=hrel
    by_cases hlt:k<len
    ·
     have hltz:(k:Int)<(len:Int):=by omega
     have hkl:k<l.length:=HLEN.out ▸ hlt
     obtain ⟨x,hx,hxn⟩:=HTL.out k hkl
     have hnot:l[k]∉l.take k:=Zz HRL.out hkl
     have hxk:x∈uA (fun l=>yR (xF l n.data.toList) n.data.toList ()) (l.take k) T:=fV hx (by rw [hxn]; exact hnot)
     obtain ⟨g,cap,e2,x0⟩:=fW HRO.out HT.out (fun i c0 T0 fr hi _ hS=>by obtain ⟨y,hy,e⟩:=hS; exact zL (HI2.out.sets y hy) hi e) hkl
     injection e2 with e2 e2n e2c
     subst e2
     clear e2n e2c
     have c0:=HG.out.cell
     have htk:l.take (k+1)=l.take k++[x.1]:=by rw [List.take_succ_eq_append_getElem hkl,hxn]
     have l1:=Xo HG.out (yl l[k]) (by rw [xT]; exact HLN.out _ (List.getElem_mem hkl))
     rw [zS,← hxn,vB HG.out.rise hxk] at l1
     rw [← hxn] at x0
     obtain ⟨w5,hrun,hs5,ht5⟩:=drop10 (HG.out.sets x hxk) n HNZ.out 0
     have ht5':zg (fun i=>i=x.2.1) wr w5:=(zg.refl _ wr).grown ht5.grown (fun k hk _=>by cases hk; rfl)
     have hg5:=HG.out.turned hxk (fun l=>xF l n.data.toList) hs5 ht5'
     have hx5:(x.1,(x.2.1,xF x.2.2 n.data.toList))∈Y6 (fun v:Nat×zI=>(v.1,xF v.2 n.data.toList)) (uA (fun l=>yR (xF l n.data.toList) n.data.toList ()) (l.take k) T) x.1:=List.mem_map.2 ⟨x,hxk,if_pos rfl⟩
     have l5:=Xo hg5 (yl x.1) (by rw [xT,hxn]; exact HLN.out _ (List.getElem_mem hkl))
     rw [zS,vB hg5.rise hx5] at l5
     have c5:=hg5.cell
     have HAD:Hid (Calls Tryz.prog 225 #[.map (some x.2.1),.string n] w5 fun e w'=>e=.returned (.tuple #[])∧zO w' B p (uA (fun l=>yR (xF l n.data.toList) n.data.toList ()) (l.take (k+1)) T)∧zg (fun i=>∃ x∈T,x.2.1=i) w1 w') :=
      (qt x.2.1 (xF x.2.2 n.data.toList) n w5 hs5 (Nat.le_trans (fH _ _) (HLT.out x hx)) HSZ.out).mono fun e w' ⟨he,h2,h3⟩=>by
       refine ⟨he,?_,HT.out.next (ht5'.next h3 (fun i _ e=>e)) (fun i _ e=>⟨x,hx,e.symm⟩)⟩
       rw [htk]
       exact HG.out.step hx (by rw [hxn]; exact hnot) h2 (ht5'.next h3 (fun i _ e=>e))
     clear hs5 ht5 ht5' htk hxk hx hnot HG HT hxn hkl hg5 hx5
     generalize yl x.1=sx at *
     generalize x.2.1=bx at *
     go_wp2_with (go_at_call 225; (with_reducible refine HAD.out.mono ?_); rintro e w6 ⟨rfl,hg6,ht6⟩; have HG2:=za hg6; have HT2:=za ht6; clear hg6 ht6)
     go_roundg (len - (k+1))
     case measure=>omega
     case rel=>exact ⟨k+1,by omega,by omega,by go_num,HG2,HT2⟩
    ·
     have hltz:¬ (k:Int)<(len:Int):=by omega
     obtain rfl:k=len:=by omega
     have hgd:=HG.out
     rw [List.take_of_length_le (by have:=HLEN.out; omega)] at hgd
     have HF:Hid (zN w B p T ((z8 T).map fun p=>(p.1,fZ n.data.toList n.data.toList p.2)) wr):=⟨p,_,hgd,HRM.out,(fun _ e=>.inl e),fun y hy=>.inl (by obtain ⟨x,hx,e⟩:=YR hy; exact ⟨x,hx,e⟩),(zg.of_below HB2.out _).next HT.out (fun i _ e=>.inr (.inr e))⟩
     clear hgd HG HT
     go_wp2
     go_ret
     exact ⟨rfl,HF.out⟩
  ·
   have n2:(n.toList == o.toList)=false:=by rw [Lib.toList_data,Lib.toList_data]; simpa using e
   have n1:¬ n.toList=o.toList:=by simpa using n2
   by_cases h9:yS (z8 T) n.data.toList=[]
   ·
    have e0:(if true=true then if n.data.toList≠o.data.toList∧yS (z8 T) n.data.toList≠[] then (9:Int) else 0 else 10)=0:=by simp [h9]
    rw [e0,if_pos rfl]
    rw [h9] at HOFN
    clear e e0 h9
    go_enter Tryz.func363,Tryz.ntmps363
    go_wp2_with fail
    with_reducible refine HN.out.mono ?_
    rintro e w7 ⟨rfl,hb⟩
    have HB7:=za (z7 HB0.out hb)
    have HON:=za (HOFN.out _ HB7.out)
    clear hb HN HOFN
    go_wp2_with fail
    with_reducible refine HON.out.mono ?_
    rintro e w8 ⟨v8,rfl,hr8,hb⟩
    obtain ⟨A8,c8,rfl⟩:=xG hr8
    have HB1:=za (z7 HB7.out hb)
    have HOF:=za (HOFO.out _ HB1.out)
    clear hb hr8 HON HOFO
    go_wp2_with fail
    with_reducible refine HOF.out.mono ?_
    rintro e w1 ⟨v,rfl,hr,hb⟩
    have HRO:=za hr
    have HB2:=za (z7 HB1.out hb)
    have HI2:=za (HI.out.later (z7 HB1.out hb))
    obtain ⟨A,c,rfl⟩:=xG hr
    have hcl:l.length≤T.length:=by rw [← HL.out]; exact Nat.le_trans (ZE _ _) (Nat.le_of_eq (uR T))
    obtain ⟨len,hlen⟩:∃ len,len=l.length:=⟨_,rfl⟩
    rw [← hlen] at hcl ⊢
    have HLEN:=za hlen
    have hlz:len≤1000:=by omega
    have HCL:=za hcl
    clear hr hb hlen hcl
    clear HOF
    go_wp2
    go_loopg [27] len (fun gg s27 wr=>∃ k:Nat,k≤len∧len - k≤gg∧s27=.int .i64 k∧Hid (zO wr B p (uA (fun l=>yR (xF l o.data.toList) n.data.toList ()) (l.take k) T))∧Hid (zg (fun i=>∃ x∈T,x.2.1=i) w1 wr))
    case atStart=>exact ⟨0,Nat.zero_le _,by omega,rfl,(by show zO _ _ _ _; rw [List.take_zero,YQ]; exact HI2.out),zg.refl _ _⟩
    case round =>
     obtain ⟨k,hk,hg,rfl,HG,HT⟩:=hrel
     by_cases hlt:k<len
     ·
      have hltz:(k:Int)<(len:Int):=by omega
      have hkl:k<l.length:=HLEN.out ▸ hlt
      obtain ⟨x,hx,hxn⟩:=HTL.out k hkl
      have hnot:l[k]∉l.take k:=Zz HRL.out hkl
      have hxk:x∈uA (fun l=>yR (xF l o.data.toList) n.data.toList ()) (l.take k) T:=fV hx (by rw [hxn]; exact hnot)
      obtain ⟨g,cap,e2,x0⟩:=fW HRO.out HT.out (fun i c0 T0 fr hi _ hS=>by obtain ⟨y,hy,e⟩:=hS; exact zL (HI2.out.sets y hy) hi e) hkl
      injection e2 with e2 e2n e2c
      subst e2
      clear e2n e2c
      have c0:=HG.out.cell
      have htk:l.take (k+1)=l.take k++[x.1]:=by rw [List.take_succ_eq_append_getElem hkl,hxn]
      have l1:=Xo HG.out (yl l[k]) (by rw [xT]; exact HLN.out _ (List.getElem_mem hkl))
      rw [zS,← hxn,vB HG.out.rise hxk] at l1
      rw [← hxn] at x0
      obtain ⟨w5,hrun,hs5,ht5⟩:=drop10 (HG.out.sets x hxk) o HNZ.out 0
      have ht5':zg (fun i=>i=x.2.1) wr w5:=(zg.refl _ wr).grown ht5.grown (fun k hk _=>by cases hk; rfl)
      have hg5:=HG.out.turned hxk (fun l=>xF l o.data.toList) hs5 ht5'
      have hx5:(x.1,(x.2.1,xF x.2.2 o.data.toList))∈Y6 (fun v:Nat×zI=>(v.1,xF v.2 o.data.toList)) (uA (fun l=>yR (xF l o.data.toList) n.data.toList ()) (l.take k) T) x.1:=List.mem_map.2 ⟨x,hxk,if_pos rfl⟩
      have l5:=Xo hg5 (yl x.1) (by rw [xT,hxn]; exact HLN.out _ (List.getElem_mem hkl))
      rw [zS,vB hg5.rise hx5] at l5
      have c5:=hg5.cell
      have HAD:Hid (Calls Tryz.prog 225 #[.map (some x.2.1),.string n] w5 fun e w'=>e=.returned (.tuple #[])∧zO w' B p (uA (fun l=>yR (xF l o.data.toList) n.data.toList ()) (l.take (k+1)) T)∧zg (fun i=>∃ x∈T,x.2.1=i) w1 w') :=
       (qt x.2.1 (xF x.2.2 o.data.toList) n w5 hs5 (Nat.le_trans (fH _ _) (HLT.out x hx)) HSZ.out).mono fun e w' ⟨he,h2,h3⟩=>by
        refine ⟨he,?_,HT.out.next (ht5'.next h3 (fun i _ e=>e)) (fun i _ e=>⟨x,hx,e.symm⟩)⟩
        rw [htk]
        exact HG.out.step hx (by rw [hxn]; exact hnot) h2 (ht5'.next h3 (fun i _ e=>e))
      clear hs5 ht5 ht5' htk hxk hx hnot HG HT hxn hkl hg5 hx5
      generalize yl x.1=sx at *
      generalize x.2.1=bx at *
      go_wp2_with (go_at_call 225; (with_reducible refine HAD.out.mono ?_); rintro e w6 ⟨rfl,hg6,ht6⟩; have HG2:=za hg6; have HT2:=za ht6; clear hg6 ht6)
      go_roundg (len - (k+1))
      case measure=>omega
      case rel=>exact ⟨k+1,by omega,by omega,by go_num,HG2,HT2⟩
     ·
      have hltz:¬ (k:Int)<(len:Int):=by omega
      obtain rfl:k=len:=by omega
      have hgd:=HG.out
      rw [List.take_of_length_le (by have:=HLEN.out; omega)] at hgd
      have HF:Hid (zN w B p T ((z8 T).map fun p=>(p.1,fZ o.data.toList n.data.toList p.2)) wr):=⟨p,_,hgd,HRM.out,(fun _ e=>.inl e),fun y hy=>.inl (by obtain ⟨x,hx,e⟩:=YR hy; exact ⟨x,hx,e⟩),(zg.of_below HB2.out _).next HT.out (fun i _ e=>.inr (.inr e))⟩
      clear hgd HG HT
      go_wp2
      go_ret
      exact ⟨rfl,HF.out⟩
   ·
    have e9:(if true=true then if n.data.toList≠o.data.toList∧yS (z8 T) n.data.toList≠[] then (9:Int) else 0 else 10)=9:=by simp [h9,e]
    rw [e9,if_neg (by decide)]
    have hpos:0<(yS (z8 T) n.data.toList).length:=List.length_pos_iff.2 h9
    clear e e9 h9
    generalize yS (z8 T) n.data.toList=ln at *
    go_enter Tryz.func363,Tryz.ntmps363
    go_wp2_with fail
    with_reducible refine HN.out.mono ?_
    rintro e w7 ⟨rfl,hb⟩
    have HB7:=za (z7 HB0.out hb)
    have HON:=za (HOFN.out _ HB7.out)
    clear hb HN HOFN
    go_wp2_with fail
    with_reducible refine HON.out.mono ?_
    rintro e w8 ⟨v8,rfl,hr8,hb⟩
    obtain ⟨A8,c8,rfl⟩:=xG hr8
    have HB1:=za (z7 HB7.out hb)
    clear hb hr8 HON HOFO
    generalize ln.length=q at *
    have hposz:(q:Int) > 0:=by omega
    have hposd:decide ((q:Int) > 0)=true:=decide_eq_true hposz
    go_wp2
    go_ret
    exact ⟨rfl,zN.still HI.out HB1.out⟩


def New10 (w W:World) (B:Nat) (p:Option Nat) (T:zq):Prop:=zO W B p T∧w.heap.size≤B∧(∀ b,p=some b→w.heap.size≤b)∧∀ x∈T,w.heap.size≤x.2.1
theorem qb.new {w W W':World} {B b:Nat} {p:Option Nat} {T:zq} {k:List UInt8} {l:zI} (h:qb W B p (yR T k (b,l)) W') (hn:New10 w W B p T) (hw:w.heap.size≤W.heap.size) (hb:w.heap.size≤b):∃ p',New10 w W' B p' (yR T k (b,l))∧zg (fun i=>i=B∨p=some i) W W':=by
 obtain ⟨p',hd,hp,ht⟩:=h
 obtain ⟨_,h1,h2,h3⟩:=hn
 refine ⟨p',⟨hd,h1,fun c e=>?_,fun x hx=>?_⟩,ht⟩
 ·
  rcases hp c e with e | e
  ·
   exact h2 c e
  ·
   exact Nat.le_trans hw e
 ·
  rcases yM.1 hx with rfl | ⟨hx,_⟩
  ·
   exact hb
  ·
   exact h3 x hx

end Go.Proofs.YteegkoicalbkbaaGreatDoor
namespace Go.Proofs.YteegkoicalbkbaaGreatDoor
open Go.ChangeShapes Go.WideShapes Go.ChangeAt Go.RowKit Go.Deep

section
variable {H:Type} {enc:TypeId×Value→H} {W:World} {base:Nat} {sp:Nat→Bool} {hd:Bool} {fuel:Nat}
end
end Go.Proofs.YteegkoicalbkbaaGreatDoor
namespace Go.Proofs.YteegkoicalbkbaaGreatDoor
open Go.RowKit Go.Maps

def qY (W w':World):Prop:=∀ (k:Nat) (c:Array Value) (T:TypeId) (fr:Nat×Nat),W.heap[k]? = some (.cells c T fr)→T≠278→w'.heap[k]? = some (.cells c T fr)
theorem qY.of_below {W w':World} (hb:Below W.heap.size W w'):qY W w':=fun k _ _ _ h _=>(hb.block k (Array.getElem?_eq_some_iff.1 h).1).trans h
theorem qY.trans {a b c:World} (h:qY a b) (k:qY b c):qY a c:=fun i x T fr hi hT=>k i x T fr (h i x T fr hi hT) hT
theorem zN.keeps {W w':World} {B:Nat} {p:Option Nat} {T:zq} {S':zn} (hd:zO W B p T) (hg:zN W B p T S' w'):qY W w':=by
 obtain ⟨_,_,_,_,_,_,ht⟩:=hg
 intro k c T fr hk hT
 refine (ht.block k (Array.getElem?_eq_some_iff.1 hk).1 ?_).trans hk
 rintro (rfl | e | ⟨x,hx,rfl⟩)
 ·
  rw [hd.blk] at hk
  injection hk with hk
  injection hk with _ h
  exact hT h.symm
 ·
  exact zL (hd.map k e) hk rfl
 ·
  exact zL (hd.sets x hx) hk rfl

section
variable {w0 W W':World} {B k:Nat} {S:zn}

end

def NmR (w:World) (v:Value) (N:List (List UInt8)):Prop:=w.ownsRow 0 9 1 v N.length (N.map encStr)
theorem Xa {w w':World} {b:Nat} {e size n:Nat} {v:Value} {xs:List Value} (h:w.ownsRow b e size v n xs) (hk:qY w w') (he:e≠278):w'.ownsRow b e size v n xs:=by
 refine ⟨h.1,?_⟩
 rcases h.2 with hn | ⟨g,cap,cur,e1,h0,hg,hr⟩
 ·
  exact .inl hn
 ·
  exact .inr ⟨g,cap,cur,e1,h0,hk g _ _ _ hg he,hr⟩
section
variable {w w':World} {v:Value} {N:List (List UInt8)} {M:List qX}
theorem NmR.keeps (h:NmR w v N) (hk:qY w w'):NmR w' v N:=Xa h hk (by decide)
theorem NmR.later (h:NmR w v N) (hb:Below w.heap.size w w'):NmR w' v N:=xz h hb
theorem NmR.of {b:Nat} (h:w.ownsRow b 9 1 v N.length (N.map encStr)):NmR w v N:=zy h (Nat.zero_le _)
theorem NmR.nil (w:World):NmR w (.slice none 0 0) []:=World.ownsRow_nil _ _ _ _
theorem NmR.at_ (h:NmR w v N) {k:Nat} (hk:k<N.length):∃ g cap,v=.slice (some ⟨g,0,none⟩) N.length cap∧w.cell? ⟨g,k,none⟩=some (.string (yl N[k])) :=
 fW h (zg.refl (fun _=>False) w) (fun _ _ _ _ _ _ f=>f) hk
theorem NmR.shape (h:NmR w v N):∃ A c,v=.slice A N.length c:=xG h
theorem NmR.src (h:NmR w v N):Src Tryz.prog 1 29 v N.length (N.map encStr) w:=by
 rcases h.2 with ⟨rfl,hz⟩ | ⟨g,cap,cur,rfl,hb,hg,r1,r2,r3,r4⟩
 ·
  have:N=[]:=List.eq_nil_of_length_eq_zero hz
  subst this
  exact Src.ofNil w Tryz.underlying29 0
 ·
  refine Src.ofSlice w Tryz.underlying29 _ _ _ _ h.1 (fun j u hu=>?_) (fun u hu=>by obtain ⟨x,_,rfl⟩:=List.mem_map.1 hu; rfl)
  have hj:j<N.length:=by have:=(List.getElem?_eq_some_iff.1 hu).1; simpa using this
  have h2:(List.take (N.length * 1) cur.toList)[j]? = some u:=by rw [r4]; exact hu
  rw [List.getElem?_take,if_pos (by omega)] at h2
  rw [Addr.add_lit,Nat.zero_add]
  simpa [World.cell?,hg] using h2
end

def Y5 (W:World) (b:Nat) (v1 v2:Value):Prop:=W.heap[b]? = some (.cells #[v1,v2] 251 (0,0))
section
variable {W W':World} {b:Nat} {v1 v2:Value}
theorem Y5.c0 (h:Y5 W b v1 v2):W.cell? ⟨b,0,none⟩=some v1:=by simp [World.cell?,show W.heap[b]? = _ from h]
theorem Y5.c1 (h:Y5 W b v1 v2):W.cell? ⟨b,1,none⟩=some v2:=by simp [World.cell?,show W.heap[b]? = _ from h]
theorem Y5.f0 (h:Y5 W b v1 v2):W.frozen? ⟨b,0,none⟩=false:=by simp [World.frozen?,show W.heap[b]? = _ from h]
theorem Y5.lt (h:Y5 W b v1 v2):b<W.heap.size:=(Array.getElem?_eq_some_iff.1 h).1
theorem Y5.later (h:Y5 W b v1 v2) (hb:Below W.heap.size W W'):Y5 W' b v1 v2:=(hb.block b h.lt).trans h
theorem Y5.turns {S:Nat→Prop} (h:Y5 W b v1 v2) (ht:zg S W W') (hS:¬ S b):Y5 W' b v1 v2:=(ht.block b h.lt hS).trans h
end
theorem app10 {w1 wr w2:World} {e:TypeId} {size n:Nat} {v:Value} {xs:List Value} {o:Obj} (hb:Below w1.heap.size w1 wr) (hu:wr.ownsRow w1.heap.size e size v n xs) (hg:(wr.alloc o).grownBy w2 v.ownBlock):Below w1.heap.size w1 w2 :=
 (z7 hb (zb (Below.refl _ _) _)).grown hg (by have:=hb.size; simp; omega) (fun j hj=>(hu.lt j hj).1)
theorem Qz (s:ByteArray):Proofs.encStr s.data.toList=.string s:=by
 show Value.string ⟨s.data.toList.toArray⟩=_
 simp

abbrev TG:TypeId:=251

def FK (W w':World):Prop:=∀ (k:Nat) (c:Array Value) (T:TypeId) (fr:Nat×Nat),W.heap[k]? = some (.cells c T fr)→T≠TG→w'.heap[k]? = some (.cells c T fr)
theorem FK.trans {a b c:World} (h:FK a b) (k:FK b c):FK a c:=fun i x T fr hi hT=>k i x T fr (h i x T fr hi hT) hT
theorem FK.of_below {W w':World} (hb:Below W.heap.size W w'):FK W w':=fun k _ _ _ h _=>(hb.block k (Array.getElem?_eq_some_iff.1 h).1).trans h
theorem Y5.keep {W:World} {b:Nat} {v1 v2:Value} (h:Y5 W b v1 v2) (i:Nat) (x:Value):FK W (W.setCell ⟨b,i,none⟩ x):=fun k c T fr hk hT=>by
 refine (Below.heap_setCell _ _ _ _ (fun e=>hT ?_)).trans hk
 have e':k=b:=e
 rw [e',show W.heap[b]? = _ from h] at hk
 injection hk with hk
 injection hk with _ hk
 exact hk.symm
theorem Y5.set0 {W:World} {b:Nat} {v1 v2:Value} (h:Y5 W b v1 v2) (x:Value):Y5 (W.setCell ⟨b,0,none⟩ x) b x v2:=by
 have h':W.heap[b]? = some (.cells #[v1,v2] TG (0,0)):=h
 have hl:=h.lt
 have:=h'
 rw [Array.getElem?_eq_getElem hl] at this
 injection this with this
 show (W.setCell ⟨b,0,none⟩ x).heap[b]? = _
 simp [World.setCell,hl,Array.getElem_modify,this]
theorem Y5.set1 {W:World} {b:Nat} {v1 v2:Value} (h:Y5 W b v1 v2) (x:Value):Y5 (W.setCell ⟨b,1,none⟩ x) b v1 x:=by
 have h':W.heap[b]? = some (.cells #[v1,v2] TG (0,0)):=h
 have hl:=h.lt
 have:=h'
 rw [Array.getElem?_eq_getElem hl] at this
 injection this with this
 show (W.setCell ⟨b,1,none⟩ x).heap[b]? = _
 simp [World.setCell,hl,Array.getElem_modify,this]
theorem Y5.other {W:World} {b c i:Nat} {v1 v2:Value} (h:Y5 W b v1 v2) (hne:b≠c) (x:Value):Y5 (W.setCell ⟨c,i,none⟩ x) b v1 v2:=(Below.heap_setCell _ _ _ _ hne).trans h
theorem Below.cellG {w wr:World} {b i:Nat} (hb:Below w.heap.size w wr) (h:w.heap.size≤b) (x:Value):Below w.heap.size w (wr.setCell ⟨b,i,none⟩ x):=hb.setCell (p:=⟨b,i,none⟩) h x
theorem fin2 {w wr:World} {b:Nat} {u1 u2:Value} (hb:Below w.heap.size w wr) (hr:Y5 wr b u1 u2) (h:w.heap.size≤b) (x y:Value) :
  Y5 ((wr.setCell ⟨b,0,none⟩ x).setCell ⟨b,1,none⟩ y) b x y∧Below w.heap.size w ((wr.setCell ⟨b,0,none⟩ x).setCell ⟨b,1,none⟩ y)∧FK wr ((wr.setCell ⟨b,0,none⟩ x).setCell ⟨b,1,none⟩ y) :=
 ⟨(hr.set0 x).set1 y,Below.cellG (Below.cellG hb h x) h y,(hr.keep 0 x).trans ((hr.set0 x).keep 1 y)⟩



end Go.Proofs.YteegkoicalbkbaaGreatDoor
