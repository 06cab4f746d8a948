/-
  The texts that the laws of this seat share, part 6: what the code and the document's own answers tell, walked function by function.
  Conditions: each theorem's own.
-/
import Derived.Maps.RangeWalk
import Derived.LoopN
import Derived.Maps.AppendAt
import Derived.Test.YthmomkjingcbiaaGreatDoorMigDBE
set_option maxHeartbeats 16000000
namespace Go.Proofs.YthmomkjingcbiaaGreatDoor
open Go.Maps

abbrev zL (V:Type):=List (List UInt8×V)
section
variable {V:Type}
def zA (L:zL V):Prop:=L.Pairwise (fun p q=>bytesBefore p.1 q.1=true)
def entV (e:V→DataW Unit) (p:List UInt8×V):Lit×DataW Unit:=(.string p.1,e p.2)
def uq (e:V→DataW Unit) (L:zL V):DataW Unit:=.map (L.map (entV e))
def Zd (x:List UInt8×V):zL V→zL V
 | []=>[x]
 | y::r=>if bytesBefore x.1 y.1 then x::y::r else y::Zd x r
def yu (L:zL V) (k:List UInt8):zL V:=L.filter (fun p=>!(p.1 == k))
def zP (L:zL V) (k:List UInt8) (v:V):zL V:=Zd (k,v) (yu L k)
def zx (L:zL V) (k:List UInt8):Bool:=L.any (fun p=>p.1 == k)
def xJ (L:zL V) (k:List UInt8):Option V:=(L.find? (fun p=>p.1 == k)).map (·.2)
def zb (L:zL V):List (List UInt8):=L.map (·.1)
def ZP (f:V→V) (L:zL V) (k:List UInt8):zL V:=L.map fun p=>if p.1=k then (p.1,f p.2) else p

theorem datV_ins (e:V→DataW Unit) (x:List UInt8×V):∀ L:zL V,(Zd x L).map (entV e)=DataW.insert (entV e x) (L.map (entV e))
 | []=>rfl
 | y::r=>by
  simp only [Zd,List.map_cons,DataW.insert]
  have h:(entV e x).1.before (entV e y).1=bytesBefore x.1 y.1:=rfl
  rw [h]
  cases bytesBefore x.1 y.1
  ·
   simp [datV_ins e x r]
  ·
   simp
theorem UU (e:V→DataW Unit) (k:List UInt8):∀ L:zL V,(yu L k).map (entV e)=(L.map (entV e)).filter (fun p=>!p.1.sameKey (.string k))
 | []=>rfl
 | y::r=>by
  have ih:=UU e k r
  unfold yu at ih ⊢
  have h:(entV e y).1.sameKey (.string k)=(y.1 == k):=rfl
  simp only [List.filter_cons,List.map_cons,h]
  cases (y.1 == k) <;> simp [ih]
theorem UT (e:V→DataW Unit) (L:zL V) (k:List UInt8) (v:V):(uq e L).put (.string k) (e v)=uq e (zP L k v):=by
 unfold uq zP
 rw [datV_ins,UU]; rfl
theorem UV (e:V→DataW Unit) (L:zL V) (k:List UInt8):(uq e L).del (.string k)=uq e (yu L k):=by
 unfold uq
 rw [UU]; rfl
theorem Z7 (e:V→DataW Unit) (L:zL V) (k:List UInt8):Maps.has (uq e L) (.string k)=zx L k:=by
 unfold uq zx
 rw [Maps.has_eq,List.any_map]; rfl
theorem datV_at (e:V→DataW Unit) (L:zL V) (k:List UInt8) (z:DataW Unit):(uq e L).atKey (.string k) z=match xJ L k with | some v=>e v | none=>z:=by
 unfold uq xJ
 unfold DataW.atKey
 simp only [List.find?_map]
 have h:((fun p:Lit×DataW Unit=>p.1.sameKey (.string k)) ∘ entV e)=(fun p:List UInt8×V=>p.1 == k):=rfl
 rw [h]
 cases L.find? (fun p=>p.1 == k) <;> rfl
theorem vz (e:V→DataW Unit) (L:zL V):Maps.size (uq e L)=L.length:=by simp [uq,Maps.size]
theorem datV_upd {e:V→DataW Unit} {f:V→V} (hf:∀ v,e (f v)=e v) (L:zL V) (k:List UInt8):uq e (ZP f L k)=uq e L:=by
 unfold uq ZP
 rw [List.map_map]
 congr 1
 refine List.map_congr_left fun p _=>?_
 show entV e (if p.1=k then (p.1,f p.2) else p)=entV e p
 split
 ·
  unfold entV; rw [hf]
 ·
  rfl

theorem Uu {x y:List UInt8×V}:∀ {L:zL V},y∈Zd x L↔y=x∨y∈L
 | []=>by simp [Zd]
 | z::r=>by
  unfold Zd
  split
  ·
   simp
  ·
   simp only [List.mem_cons,Uu (L:=r)]
   constructor
   ·
    rintro (h | h | h)
    ·
     exact .inr (.inl h)
    ·
     exact .inl h
    ·
     exact .inr (.inr h)
   ·
    rintro (h | h | h)
    ·
     exact .inr (.inl h)
    ·
     exact .inl h
    ·
     exact .inr (.inr h)
theorem yn {L:zL V} {k:List UInt8} {p:List UInt8×V}:p∈yu L k↔p∈L∧p.1≠k:=by
 unfold yu; simp
theorem yD {L:zL V} {k:List UInt8} {v:V} {p:List UInt8×V}:p∈zP L k v↔p=(k,v)∨(p∈L∧p.1≠k):=by
 unfold zP
 rw [Uu,yn]
theorem yj {L:zL V} (h:zA L) (k:List UInt8):zA (yu L k):=h.filter _
theorem Qn {x:List UInt8×V}:∀ {L:zL V},zA L→(∀ p∈L,p.1≠x.1)→zA (Zd x L)
 | [],_,_=>by simp [Zd,zA]
 | y::r,h,hn=>by
  unfold Zd
  obtain ⟨h1,h2⟩:=List.pairwise_cons.1 h
  split
  ·
   rename_i hb
   exact List.pairwise_cons.2 ⟨fun p hp=>by
    rcases List.mem_cons.1 hp with rfl | hp
    ·
     exact hb
    ·
     exact WideShapes.bytes_trans _ _ _ hb (h1 p hp),h⟩
  ·
   rename_i hb
   have hyx:bytesBefore y.1 x.1=true:=by
    rcases WideAt.bytes_total y.1 x.1 (hn y (by simp)) with h' | h'
    ·
     exact h'
    ·
     exact absurd h' hb
   exact List.pairwise_cons.2 ⟨fun p hp=>by
    rcases Uu.1 hp with rfl | hp
    ·
     exact hyx
    ·
     exact h1 p hp,Qn h2 (fun p hp=>hn p (by simp [hp]))⟩
theorem yM {L:zL V} (h:zA L) (k:List UInt8) (v:V):zA (zP L k v) :=
 Qn (yj h k) (fun _ hp=>(yn.1 hp).2)
theorem ql (f:V→V) (L:zL V) (k:List UInt8):zb (ZP f L k)=zb L:=by
 unfold zb ZP
 rw [List.map_map]
 refine List.map_congr_left fun p _=>?_
 show (if p.1=k then (p.1,f p.2) else p).1=p.1
 split <;> rfl
theorem yN {W:Type} {L:zL V} {L':zL W} (h:zA L) (e:zb L'=zb L):zA L':=by
 have h1:(zb L).Pairwise (fun a b=>bytesBefore a b=true):=List.pairwise_map.2 h
 rw [← e] at h1
 exact List.pairwise_map.1 h1
theorem YS {L:zL V} (h:zA L) (f:V→V) (k:List UInt8):zA (ZP f L k):=yN h (ql f L k)

theorem xT {L:zL V} {k:List UInt8}:zx L k=true↔∃ p∈L,p.1=k:=by simp [zx]
theorem yL {L:zL V} {k:List UInt8}:zx L k=true↔k∈zb L:=by
 rw [xT]
 simp [zb]
theorem jO {L:zL V} {k:List UInt8}:zx L k=false↔k∉zb L:=by
 rw [← yL]; simp
theorem XE {L:zL V} {k:List UInt8} (h:zx L k=false):yu L k=L:=by
 unfold yu; rw [List.filter_eq_self]
 intro p hp
 cases e:(p.1 == k)
 ·
  rfl
 ·
  have:zx L k=true:=xT.2 ⟨p,hp,by simpa using e⟩
  rw [h] at this; cases this
theorem qQ (x:List UInt8×V):∀ L:zL V,(Zd x L).length=L.length+1
 | []=>rfl
 | y::r=>by unfold Zd; split <;> simp [qQ x r]
theorem jC (L:zL V) (k:List UInt8):(yu L k).length≤L.length:=List.length_filter_le _ _
theorem FC {L:zL V} {k:List UInt8} (h:zx L k=true):(yu L k).length<L.length:=by
 unfold yu
 obtain ⟨p,hp,e⟩:=xT.1 h
 rcases Nat.lt_or_ge (L.filter fun p=>!(p.1 == k)).length L.length with h1 | h1
 ·
  exact h1
 ·
  have h2:=List.filter_eq_self.1 (List.length_filter_eq_length_iff.1 (Nat.le_antisymm (List.length_filter_le _ _) h1) |> List.filter_eq_self.2)
  have:=h2 p hp
  simp [e] at this
theorem Zs (L:zL V) (k:List UInt8) (v:V):(zP L k v).length≤L.length+1:=by
 unfold zP
 rw [qQ]
 have:=jC L k
 omega
theorem putV_has {L:zL V} {k:List UInt8} (v:V) (h:zx L k=true):(zP L k v).length≤L.length:=by
 unfold zP
 rw [qQ]
 have:=FC h
 omega
theorem zH {L:zL V} (hr:zA L) {k:List UInt8} {v:V}:xJ L k=some v↔(k,v)∈L:=by
 induction L with
 | nil=>simp [xJ]
 | cons y r ih =>
  obtain ⟨h1,h2⟩:=List.pairwise_cons.1 hr
  unfold xJ at ih ⊢
  rw [List.find?_cons]
  by_cases e:y.1=k
  ·
   have e':(y.1 == k)=true:=by simpa using e
   simp only [e',Option.map_some,Option.some.injEq,List.mem_cons]
   constructor
   ·
    intro h; left; rw [← h,← e]
   ·
    rintro (h | h)
    ·
     rw [← h]
    ·
     exact absurd (h1 _ h) (by rw [e,zD]; exact Bool.noConfusion)
  ·
   have e':(y.1 == k)=false:=by simpa using e
   simp only [e',List.mem_cons]
   rw [ih h2]
   constructor
   ·
    exact .inr
   ·
    rintro (h | h)
    ·
     exact absurd (by rw [← h]) e
    ·
     exact h
theorem qz {L:zL V} {k:List UInt8}:xJ L k=none↔zx L k=false:=by
 unfold xJ zx
 rw [Option.map_eq_none_iff,List.find?_eq_none,List.any_eq_false]
theorem qT {L:zL V} {k:List UInt8} (h:zx L k=true):∃ v,xJ L k=some v:=by
 cases hg:xJ L k
 ·
  rw [qz.1 hg] at h; cases h
 ·
  exact ⟨_,rfl⟩
theorem YT {L:zL V} (hr:zA L) {p q:List UInt8×V} (hp:p∈L) (hq:q∈L) (e:p.1=q.1):p=q:=by
 have h1:=(zH hr (k:=p.1) (v:=p.2)).2 hp
 have h2:=(zH hr (k:=p.1) (v:=q.2)).2 (by rw [e]; exact hq)
 rw [h1] at h2
 injection h2 with h2
 exact Prod.ext e h2
theorem QL {L:zL V} {k:List UInt8} {v:V} {x:List UInt8}:x∈zb (zP L k v)↔x=k∨x∈zb L:=by
 unfold zb
 simp only [List.mem_map,yD]
 constructor
 ·
  rintro ⟨p,rfl | ⟨hp,_⟩,rfl⟩
  ·
   exact .inl rfl
  ·
   exact .inr ⟨p,hp,rfl⟩
 ·
  rintro (rfl | ⟨p,hp,rfl⟩)
  ·
   exact ⟨_,.inl rfl,rfl⟩
  ·
   by_cases e:p.1=k
   ·
    exact ⟨(k,v),.inl rfl,e.symm⟩
   ·
    exact ⟨p,.inr ⟨hp,e⟩,rfl⟩
theorem QM {L:zL V} {k x:List UInt8}:x∈zb (yu L k)↔x∈zb L∧x≠k:=by
 unfold zb
 simp only [List.mem_map,yn]
 constructor
 ·
  rintro ⟨p,⟨hp,hn⟩,rfl⟩; exact ⟨⟨p,hp,rfl⟩,hn⟩
 ·
  rintro ⟨⟨p,hp,rfl⟩,hn⟩; exact ⟨p,⟨hp,hn⟩,rfl⟩
theorem uo {L:zL V} {k x:List UInt8} {v:V}:zx (zP L k v) x=true↔x=k∨zx L x=true:=by
 rw [yL,QL,yL]
theorem up {L:zL V} {k x:List UInt8}:zx (yu L k) x=true↔zx L x=true∧x≠k:=by
 rw [yL,QM,yL]
theorem map_insV {W:Type} (f:V→W) (x:List UInt8×V):∀ L:zL V,(Zd x L).map (fun p=>(p.1,f p.2))=Zd (x.1,f x.2) (L.map fun p=>(p.1,f p.2))
 | []=>rfl
 | y::r=>by
  unfold Zd
  simp only [List.map_cons]
  split <;> simp [map_insV f x r]
theorem Uy {W:Type} (f:V→W) (L:zL V) (k:List UInt8):(yu L k).map (fun p=>(p.1,f p.2))=yu (L.map fun p=>(p.1,f p.2)) k:=by
 unfold yu
 rw [List.filter_map]
 rfl
theorem map_putV {W:Type} (f:V→W) (L:zL V) (k:List UInt8) (v:V):(zP L k v).map (fun p=>(p.1,f p.2))=zP (L.map fun p=>(p.1,f p.2)) k (f v):=by
 unfold zP
 rw [map_insV,Uy]
theorem vv {W:Type} (f:V→W) (L:zL V):zb (L.map fun p=>(p.1,f p.2))=zb L:=by
 unfold zb
 rw [List.map_map]; rfl
theorem map_hasV {W:Type} (f:V→W) (L:zL V) (k:List UInt8):zx (L.map fun p=>(p.1,f p.2)) k=zx L k:=by
 unfold zx
 rw [List.any_map]; rfl
end

/-! ### rows of texts -/
def ut (l:List (List UInt8)):Prop:=l.Pairwise (fun a b=>bytesBefore a b=true)
theorem zA.names {V:Type} {L:zL V} (h:zA L):ut (zb L):=List.pairwise_map.2 h
theorem vX:∀ {a b:List (List UInt8)},ut a→ut b→(∀ x,x∈a↔x∈b)→a=b
 | [],[],_,_,_=>rfl
 | [],y::s,_,_,h=>absurd ((h y).2 (by simp)) (by simp)
 | x::r,[],_,_,h=>absurd ((h x).1 (by simp)) (by simp)
 | x::r,y::s,ha,hb,h=>by
  obtain ⟨a1,a2⟩:=List.pairwise_cons.1 ha
  obtain ⟨b1,b2⟩:=List.pairwise_cons.1 hb
  have e:x=y:=by
   rcases List.mem_cons.1 ((h x).1 (by simp)) with e | hx
   ·
    exact e
   ·
    rcases List.mem_cons.1 ((h y).2 (by simp)) with e | hy
    ·
     exact e.symm
    ·
     exact absurd (b1 _ hx) (by rw [yq (a1 _ hy)]; exact Bool.noConfusion)
  subst e
  rw [vX a2 b2 fun z=>?_]
  constructor
  ·
   intro hz
   rcases List.mem_cons.1 ((h z).1 (by simp [hz])) with e | h'
   ·
    subst e; exact absurd (a1 _ hz) (by rw [zD]; exact Bool.noConfusion)
   ·
    exact h'
  ·
   intro hz
   rcases List.mem_cons.1 ((h z).2 (by simp [hz])) with e | h'
   ·
    subst e; exact absurd (b1 _ hz) (by rw [zD]; exact Bool.noConfusion)
   ·
    exact h'
theorem Qh {ls ss:List (List UInt8)} (hr:ut ls) (hp:ss.Perm ls) (le:List UInt8→List UInt8→Bool) (hle:∀ x y,le x y=!bytesBefore y x):ss.mergeSort le=ls:=by
 have:=Vp (L:=ls.map fun x=>(x,[])) (List.pairwise_map.2 (by exact hr)) (ss:=ss) (by rw [List.map_map]; exact (List.map_id ls).symm ▸ hp) le hle
 rw [this,List.map_map]
 exact List.map_id ls

def Xn (s:List UInt8):List (List UInt8)→List (List UInt8)
 | []=>[s]
 | t::r=>if bytesBefore s t then s::t::r else t::Xn s r
theorem UH {s x:List UInt8}:∀ {l:List (List UInt8)},x∈Xn s l↔x=s∨x∈l
 | []=>by simp [Xn]
 | t::r=>by
  unfold Xn
  split
  ·
   simp
  ·
   simp only [List.mem_cons,UH (l:=r)]
   constructor
   ·
    rintro (h | h | h)
    ·
     exact .inr (.inl h)
    ·
     exact .inl h
    ·
     exact .inr (.inr h)
   ·
    rintro (h | h | h)
    ·
     exact .inr (.inl h)
    ·
     exact .inl h
    ·
     exact .inr (.inr h)
theorem fq (s:List UInt8):∀ l:List (List UInt8),(Xn s l).length=l.length+1
 | []=>rfl
 | t::r=>by unfold Xn; split <;> simp [fq s r]
theorem J0 {s:List UInt8}:∀ {l:List (List UInt8)},ut l→s∉l→ut (Xn s l)
 | [],_,_=>by simp [Xn,ut]
 | t::r,h,hn=>by
  unfold Xn
  obtain ⟨h1,h2⟩:=List.pairwise_cons.1 h
  split
  ·
   rename_i hb
   exact List.pairwise_cons.2 ⟨fun p hp=>by
    rcases List.mem_cons.1 hp with rfl | hp
    ·
     exact hb
    ·
     exact WideShapes.bytes_trans _ _ _ hb (h1 p hp),h⟩
  ·
   rename_i hb
   have hts:bytesBefore t s=true:=by
    rcases WideAt.bytes_total t s (fun e=>hn (by simp [e])) with h' | h'
    ·
     exact h'
    ·
     exact absurd h' hb
   exact List.pairwise_cons.2 ⟨fun p hp=>by
    rcases UH.1 hp with rfl | hp
    ·
     exact hts
    ·
     exact h1 p hp,J0 h2 (fun hp=>hn (by simp [hp]))⟩
def yU (out:List (List UInt8)) (s:List UInt8):List (List UInt8):=if s∈out then out else Xn s out
def xu (l:List (List UInt8)):List (List UInt8):=l.foldl yU []
theorem Uc {o:List (List UInt8)} (h:ut o) (s:List UInt8):ut (yU o s):=by
 unfold yU
 split
 ·
  exact h
 ·
  rename_i hn; exact J0 h hn
theorem Qi {o:List (List UInt8)} {s x:List UInt8}:x∈yU o s↔x=s∨x∈o:=by
 unfold yU
 split
 ·
  rename_i h
  constructor
  ·
   exact .inr
  ·
   rintro (rfl | h')
   ·
    exact h
   ·
    exact h'
 ·
  exact UH
theorem VO:∀ (l o:List (List UInt8)),ut o→ut (l.foldl yU o)
 | [],_,h=>h
 | s::r,_,h=>VO r _ (Uc h s)
theorem J9 {x:List UInt8}:∀ (l o:List (List UInt8)),x∈l.foldl yU o↔x∈l∨x∈o
 | [],_=>by simp
 | s::r,o=>by
  show x∈r.foldl yU (yU o s)↔_
  rw [J9 r,Qi]
  simp only [List.mem_cons]
  constructor
  ·
   rintro (h | h | h)
   ·
    exact .inl (.inr h)
   ·
    exact .inl (.inl h)
   ·
    exact .inr h
  ·
   rintro ((h | h) | h)
   ·
    exact .inr (.inl h)
   ·
    exact .inl h
   ·
    exact .inr (.inr h)
theorem Vq (l:List (List UInt8)):ut (xu l):=VO l [] List.Pairwise.nil
theorem YL {l:List (List UInt8)} {x:List UInt8}:x∈xu l↔x∈l:=by
 unfold xu
 rw [J9]; simp
theorem sortT_eq {l r:List (List UInt8)} (hr:ut r) (h:∀ x,x∈r↔x∈l):xu l=r :=
 vX (Vq l) hr fun x=>by rw [YL,h]
theorem sortT_take {l:List (List UInt8)} {k:Nat} (hk:k<l.length):xu (l.take (k+1))=yU (xu (l.take k)) l[k]:=by
 unfold xu
 rw [List.take_succ_eq_append_getElem hk,List.foldl_append]
 rfl
theorem JQ (o:List (List UInt8)) (s:List UInt8):(yU o s).length≤o.length+1:=by
 unfold yU
 split
 ·
  omega
 ·
  rw [fq]; omega
theorem foldl_le:∀ (l o:List (List UInt8)),(l.foldl yU o).length≤l.length+o.length
 | [],_=>by simp
 | s::r,o=>by
  have h1:=foldl_le r (yU o s)
  have h2:=JQ o s
  simp only [List.foldl_cons,List.length_cons]
  omega
theorem sortT_le (l:List (List UInt8)):(xu l).length≤l.length:=by
 have:=foldl_le l []
 simpa [xu] using this

/-! ### groups,as the code has them -/
abbrev zQ:=zL Unit
abbrev zw:=zL zQ
def QQ (S:zw) (g:List UInt8):zQ:=(xJ S g).getD []
def uO (S:zw) (g n:List UInt8):Bool:=zx (QQ S g) n
def yF (S:zw) (g:List UInt8) (l:List (List UInt8)):Int:=if zf g && l.all zf then (if zx S g then 0 else 8) else 10
def uS (S:zw) (g:List UInt8):Int:=if zf g then (if zx S g then 9 else if 6≤S.length then 7 else 0) else 10
def qu (S:zw) (g:List UInt8):zw:=if uS S g=0 then zP S g [] else S
def jY (S:zw) (g:List UInt8):Int:=yF S g []
def jA (S:zw) (g:List UInt8):zw:=if jY S g=0 then yu S g else S
def qv (S:zw) (g n:List UInt8):Int:=if yF S g [n]=0 then (if uO S g n then 9 else 0) else yF S g [n]
def qP (S:zw) (g n:List UInt8):zw:=if qv S g n=0 then ZP (fun l=>zP l n ()) S g else S
def Yd (S:zw) (g n:List UInt8):Int:=if yF S g [n]=0 then (if uO S g n then 0 else 12) else yF S g [n]
def Zz (S:zw) (g n:List UInt8):zw:=if Yd S g n=0 then ZP (fun l=>yu l n) S g else S
def ofs10 (S:zw) (n:List UInt8):zw:=S.filter fun p=>zx p.2 n
def yV (S:zw) (n:List UInt8):List (List UInt8):=zb (ofs10 S n)
def fS (S:zw) (o n:List UInt8):Int:=if zf n then (if n≠o∧yV S n≠[] then 9 else 0) else 10
def fR (o n:List UInt8) (l:zQ):zQ:=if zx l o then zP (yu l o) n () else l
def Zq (S:zw) (o n:List UInt8):zw:=if fS S o n=0 then S.map (fun p=>(p.1,fR o n p.2)) else S
def jT (S:zw) (n:List UInt8):zw:=S.map fun p=>(p.1,yu p.2 n)

structure zM (S:zw) (k:Nat):Prop where
 rise:zA S
 sets:∀ p∈S,zA p.2
 few:S.length≤6
 little:∀ p∈S,p.2.length≤k
 named:∀ p∈S,zf p.1=true
 whos:∀ p∈S,∀ m∈p.2,zf m.1=true
theorem zM.nil:zM [] 0:=⟨List.Pairwise.nil,(fun _ h=>nomatch h),by simp,(fun _ h=>nomatch h),(fun _ h=>nomatch h),(fun _ h=>nomatch h)⟩
theorem zM.mono {S:zw} {k k':Nat} (h:zM S k) (hk:k≤k'):zM S k':=⟨h.rise,h.sets,h.few,fun p hp=>Nat.le_trans (h.little p hp) hk,h.named,h.whos⟩

theorem Yr {S:zw} (hr:zA S) {p:List UInt8×zQ} (h:p∈S):QQ S p.1=p.2:=by
 unfold QQ
 rw [(zH hr).2 (show (p.1,p.2)∈S from h)]; rfl
theorem mem10_none {S:zw} {g:List UInt8} (h:zx S g=false):QQ S g=[]:=by
 unfold QQ
 rw [qz.2 h]; rfl
theorem xD {S:zw} (hr:zA S) {g n:List UInt8}:uO S g n=true↔∃ p∈S,p.1=g∧zx p.2 n=true:=by
 unfold uO
 constructor
 ·
  intro h
  cases hg:zx S g with
  | false=>rw [mem10_none hg] at h; cases h
  | true =>
   obtain ⟨p,hp,rfl⟩:=xT.1 hg
   rw [Yr hr hp] at h
   exact ⟨p,hp,rfl,h⟩
 ·
  rintro ⟨p,hp,rfl,h⟩
  rw [Yr hr hp]; exact h
theorem xC {S:zw} (hr:zA S) {g n:List UInt8}:g∈yV S n↔uO S g n=true:=by
 rw [xD hr]
 unfold yV ofs10 zb
 simp only [List.mem_map,List.mem_filter]
 constructor
 ·
  rintro ⟨p,⟨hp,h⟩,rfl⟩; exact ⟨p,hp,rfl,h⟩
 ·
  rintro ⟨p,hp,rfl,h⟩; exact ⟨p,⟨hp,h⟩,rfl⟩
theorem xM {S:zw} (hr:zA S) (n:List UInt8):ut (yV S n):=zA.names (hr.filter _)
theorem jK {S:zw} {g n:List UInt8} (h:g∈yV S n):g∈zb S:=by
 unfold yV ofs10 zb at h
 obtain ⟨p,hp,rfl⟩:=List.mem_map.1 h
 exact List.mem_map.2 ⟨p,(List.mem_filter.1 hp).1,rfl⟩
theorem X6 (S:zw) (n:List UInt8):(yV S n).length≤S.length:=by
 unfold yV ofs10 zb
 rw [List.length_map]
 exact List.length_filter_le _ _
theorem yK {V:Type} (L:zL V):(zb L).length=L.length:=List.length_map _

theorem J8 {S:zw} {k:Nat} (h:zM S k) (g:List UInt8):zM (qu S g) k:=by
 unfold qu
 split
 case isFalse=>exact h
 case isTrue he =>
  unfold uS at he
  split at he
  case isFalse=>cases he
  case isTrue hn =>
  split at he
  ·
   cases he
  ·
   rename_i hh
   have hf:zx S g=false:=by simpa using hh
   split at he
   ·
    cases he
   ·
    rename_i h6
    refine ⟨yM h.rise g [],fun p hp=>?_,?_,fun p hp=>?_,fun p hp=>?_,fun p hp=>?_⟩
    ·
     rcases yD.1 hp with rfl | ⟨hp,_⟩
     ·
      exact List.Pairwise.nil
     ·
      exact h.sets p hp
    ·
     have:=Zs S g []; omega
    ·
     rcases yD.1 hp with rfl | ⟨hp,_⟩
     ·
      simp
     ·
      exact h.little p hp
    ·
     rcases yD.1 hp with rfl | ⟨hp,_⟩
     ·
      exact hn
     ·
      exact h.named p hp
    ·
     rcases yD.1 hp with rfl | ⟨hp,_⟩
     ·
      intro m hm; cases hm
     ·
      exact h.whos p hp
theorem Xw {S:zw} {k:Nat} (h:zM S k) (g:List UInt8):zM (jA S g) k:=by
 unfold jA
 split
 ·
  exact ⟨yj h.rise g,fun p hp=>h.sets p (yn.1 hp).1,Nat.le_trans (jC S g) h.few,fun p hp=>h.little p (yn.1 hp).1,fun p hp=>h.named p (yn.1 hp).1,fun p hp=>h.whos p (yn.1 hp).1⟩
 ·
  exact h
theorem good_upd {S:zw} {k k':Nat} (h:zM S k) (f:zQ→zQ) (g:List UInt8) (hk:k≤k') (hf:∀ l:zQ,zA l→l.length≤k→zA (f l)∧(f l).length≤k') (hw:∀ l:zQ,(∀ m∈l,zf m.1=true)→∀ m∈f l,zf m.1=true):zM (ZP f S g) k':=by
 refine ⟨YS h.rise f g,fun p hp=>?_,by rw [ZP,List.length_map]; exact h.few,fun p hp=>?_,fun p hp=>?_,fun p hp=>?_⟩
 all_goals
  obtain ⟨q,hq,rfl⟩:=List.mem_map.1 hp
  have:=hf q.2 (h.sets q hq) (h.little q hq)
  by_cases e:q.1=g
  ·
   simp only [e,if_true]
   first | exact this.1 | exact this.2 | (rw [← e]; exact h.named q hq) | exact hw q.2 (h.whos q hq)
  ·
   simp only [e,if_false]
   first | exact h.sets q hq | exact Nat.le_trans (h.little q hq) hk | exact h.named q hq | exact h.whos q hq
theorem js {S:zw} {k:Nat} (h:zM S k) (g n:List UInt8):zM (qP S g n) (k+1):=by
 unfold qP
 split
 ·
  rename_i he
  have hn:zf n=true:=by
   unfold qv at he
   split at he
   ·
    rename_i hz
    unfold yF at hz
    split at hz
    ·
     rename_i hb
     simp only [List.all_cons,List.all_nil,Bool.and_true,Bool.and_eq_true] at hb
     exact hb.2
    ·
     cases hz
   ·
    rename_i hz; exact absurd he hz
  exact good_upd h _ g (by omega) (fun l hl hk=>⟨yM hl n (),by have:=Zs l n (); omega⟩) fun l hl m hm=>by
   rcases yD.1 hm with rfl | ⟨hm,_⟩
   ·
    exact hn
   ·
    exact hl m hm
 ·
  exact h.mono (by omega)
theorem jP {S:zw} {k:Nat} (h:zM S k) (g n:List UInt8):zM (Zz S g n) k:=by
 unfold Zz
 split
 ·
  exact good_upd h _ g (by omega) (fun l hl hk=>⟨yj hl n,Nat.le_trans (jC l n) hk⟩) fun l hl m hm=>hl m (yn.1 hm).1
 ·
  exact h
theorem ren10_rise {o n:List UInt8} {l:zQ} (h:zA l):zA (fR o n l):=by
 unfold fR
 split
 ·
  exact yM (yj h o) n ()
 ·
  exact h
theorem ren10_le (o n:List UInt8) (l:zQ):(fR o n l).length≤l.length:=by
 unfold fR
 split
 ·
  rename_i h
  have h1:=FC h
  have h2:=Zs (yu l o) n ()
  omega
 ·
  exact Nat.le_refl _
theorem good_map {S:zw} {k:Nat} (h:zM S k) (f:zQ→zQ) (hf:∀ l:zQ,zA l→zA (f l)∧(f l).length≤l.length) (hw:∀ l:zQ,(∀ m∈l,zf m.1=true)→∀ m∈f l,zf m.1=true):zM (S.map fun p=>(p.1,f p.2)) k:=by
 refine ⟨yN h.rise (vv f S),fun p hp=>?_,by rw [List.length_map]; exact h.few,fun p hp=>?_,fun p hp=>?_,fun p hp=>?_⟩
 all_goals
  obtain ⟨q,hq,rfl⟩:=List.mem_map.1 hp
  have:=hf q.2 (h.sets q hq)
  first | exact this.1 | exact Nat.le_trans this.2 (h.little q hq) | exact h.named q hq | exact hw q.2 (h.whos q hq)
theorem qS {S:zw} {k:Nat} (h:zM S k) (o n:List UInt8):zM (Zq S o n) k:=by
 unfold Zq
 split
 ·
  rename_i he
  have hn:zf n=true:=by
   unfold fS at he
   split at he
   ·
    assumption
   ·
    cases he
  exact good_map h _ (fun l hl=>⟨ren10_rise hl,ren10_le o n l⟩) fun l hl m hm=>by
   unfold fR at hm
   split at hm
   ·
    rcases yD.1 hm with rfl | ⟨hm,_⟩
    ·
     exact hn
    ·
     exact hl m (yn.1 hm).1
   ·
    exact hl m hm
 ·
  exact h
theorem Xv {S:zw} {k:Nat} (h:zM S k) (n:List UInt8):zM (jT S n) k:=good_map h _ (fun l hl=>⟨yj hl n,jC l n⟩) fun _ hl m hm=>hl m (yn.1 hm).1

abbrev vc:=List UInt8×List UInt8
def vl (l:List (List UInt8)) (s:List UInt8):Bool:=l.any fun t=>t == s
theorem ve {l:List (List UInt8)} {s:List UInt8}:vl l s=true↔s∈l:=by simp [vl]
theorem ZD {l:List (List UInt8)} {s:List UInt8}:vl l s=false↔s∉l:=by rw [← ve]; simp
def xZ (N:List (List UInt8)) (g:List UInt8):List (List UInt8):=N.filter fun s=>!(s == g)
def dropM (M:List vc) (g:List UInt8):List vc:=M.filter fun m=>!(m.1 == g)
def outM (M:List vc) (g n:List UInt8):List vc:=M.filter fun m=>!(m.1 == g) || !(m.2 == n)
def ofM (M:List vc) (n:List UInt8):List (List UInt8):=(M.filter fun m=>m.2 == n).map (·.1)
def renM (M:List vc) (o n:List UInt8):List vc:=M.map fun m=>if m.2 == o then (m.1,n) else m
def rmM (M:List vc) (n:List UInt8):List vc:=(xu (ofM M n)).foldl (fun m g=>outM m g n) M

theorem Uo {M:List vc} {g n:List UInt8} {m:vc}:m∈outM M g n↔m∈M∧(m.1=g→m.2≠n):=by
 simp only [outM,List.mem_filter,Bool.or_eq_true,Bool.not_eq_true',beq_eq_false_iff_ne]
 constructor
 ·
  rintro ⟨h,h' | h'⟩
  ·
   exact ⟨h,fun e=>absurd e h'⟩
  ·
   exact ⟨h,fun _=>h'⟩
 ·
  rintro ⟨h,h'⟩
  refine ⟨h,?_⟩
  by_cases e:m.1=g
  ·
   exact .inr (h' e)
  ·
   exact .inl e
theorem Qx {n:List UInt8} {m:vc}:∀ (gs:List (List UInt8)) (M:List vc),m∈gs.foldl (fun m g=>outM m g n) M↔m∈M∧(m.1∈gs→m.2≠n)
 | [],M=>by simp
 | g::r,M=>by
  show m∈r.foldl (fun m g=>outM m g n) (outM M g n)↔_
  rw [Qx r,Uo]
  simp only [List.mem_cons]
  constructor
  ·
   rintro ⟨⟨h,h1⟩,h2⟩
   exact ⟨h,fun e=>e.elim h1 h2⟩
  ·
   rintro ⟨h,h1⟩
   exact ⟨⟨h,fun e=>h1 (.inl e)⟩,fun e=>h1 (.inr e)⟩
theorem ofM_mem {M:List vc} {g n:List UInt8}:g∈ofM M n↔(g,n)∈M:=by
 simp only [ofM,List.mem_map,List.mem_filter,beq_iff_eq]
 constructor
 ·
  rintro ⟨m,⟨hm,rfl⟩,rfl⟩; exact hm
 ·
  intro h; exact ⟨_,⟨h,rfl⟩,rfl⟩
theorem rmM_mem {M:List vc} {n:List UInt8} {m:vc}:m∈rmM M n↔m∈M∧m.2≠n:=by
 unfold rmM
 rw [Qx,YL,ofM_mem]
 constructor
 ·
  rintro ⟨h,h1⟩
  refine ⟨h,fun e=>?_⟩
  exact h1 (by rw [← e]; exact h) e
 ·
  rintro ⟨h,h1⟩; exact ⟨h,fun _=>h1⟩

structure uh (S:zw) (N:List (List UInt8)) (M:List vc):Prop where
 names:N=zb S
 mem:∀ g n,(g,n)∈M↔uO S g n=true

section
variable {S:zw} {N:List (List UInt8)} {M:List vc} {k:Nat}
theorem uh.nil:uh [] [] []:=⟨rfl,fun _ _=>by simp [uO,QQ,xJ,zx]⟩
theorem uh.has (h:uh S N M) (g:List UInt8):vl N g=zx S g:=by
 rw [Bool.eq_iff_iff,ve,yL,h.names]
theorem uh.len (h:uh S N M):N.length=S.length:=by rw [h.names,yK]

theorem in10_put (hr:zA S) {g:List UInt8} (hh:zx S g=false) (g' n:List UInt8):uO (zP S g []) g' n=uO S g' n:=by
 rw [Bool.eq_iff_iff,xD (yM hr g []),xD hr]
 constructor
 ·
  rintro ⟨p,hp,rfl,h⟩
  rcases yD.1 hp with rfl | ⟨hp,_⟩
  ·
   cases h
  ·
   exact ⟨p,hp,rfl,h⟩
 ·
  rintro ⟨p,hp,rfl,h⟩
  exact ⟨p,yD.2 (.inr ⟨hp,fun e=>by rw [jO] at hh; exact hh (by rw [← e]; exact List.mem_map.2 ⟨p,hp,rfl⟩)⟩),rfl,h⟩
theorem in10_del (hr:zA S) (g g' n:List UInt8):uO (yu S g) g' n=true↔uO S g' n=true∧g'≠g:=by
 rw [xD (yj hr g),xD hr]
 constructor
 ·
  rintro ⟨p,hp,rfl,h⟩
  obtain ⟨h1,h2⟩:=yn.1 hp
  exact ⟨⟨p,h1,rfl,h⟩,h2⟩
 ·
  rintro ⟨⟨p,hp,rfl,h⟩,h2⟩
  exact ⟨p,yn.2 ⟨hp,h2⟩,rfl,h⟩
theorem in10_upd (hr:zA S) (f:zQ→zQ) (g g' n:List UInt8):uO (ZP f S g) g' n=true↔∃ p∈S,p.1=g'∧zx (if g'=g then f p.2 else p.2) n=true:=by
 rw [xD (YS hr f g)]
 constructor
 ·
  rintro ⟨q,hq,rfl,h⟩
  obtain ⟨p,hp,rfl⟩:=List.mem_map.1 hq
  refine ⟨p,hp,?_⟩
  by_cases e:p.1=g
  ·
   simp only [e,if_true] at h ⊢; exact ⟨trivial,h⟩
  ·
   simp only [e,if_false] at h ⊢; exact ⟨trivial,h⟩
 ·
  rintro ⟨p,hp,rfl,h⟩
  refine ⟨_,List.mem_map.2 ⟨p,hp,rfl⟩,?_⟩
  by_cases e:p.1=g
  ·
   simp only [e,if_true] at h ⊢; exact ⟨trivial,h⟩
  ·
   simp only [e,if_false] at h ⊢; exact ⟨trivial,h⟩
theorem UM (hr:zA S) (f:zQ→zQ) (g n:List UInt8):uO (S.map fun p=>(p.1,f p.2)) g n=true↔∃ p∈S,p.1=g∧zx (f p.2) n=true:=by
 rw [xD (yN hr (vv f S))]
 constructor
 ·
  rintro ⟨q,hq,rfl,h⟩
  obtain ⟨p,hp,rfl⟩:=List.mem_map.1 hq
  exact ⟨p,hp,rfl,h⟩
 ·
  rintro ⟨p,hp,rfl,h⟩
  exact ⟨_,List.mem_map.2 ⟨p,hp,rfl⟩,rfl,h⟩

theorem VH {g:List UInt8} (h:uS S g=0):zf g=true∧zx S g=false∧S.length<6:=by
 unfold uS at h
 split at h
 case isFalse=>cases h
 case isTrue hn =>
 split at h
 ·
  cases h
 ·
  rename_i hh
  split at h
  ·
   cases h
  ·
   exact ⟨hn,by simpa using hh,by omega⟩
theorem jw {g:List UInt8} {l:List (List UInt8)} (h:yF S g l=0):zf g=true∧l.all zf=true∧zx S g=true:=by
 unfold yF at h
 split at h
 case isFalse=>cases h
 case isTrue hn =>
 split at h
 ·
  rename_i hh
  simp only [Bool.and_eq_true] at hn
  exact ⟨hn.1,hn.2,hh⟩
 ·
  cases h
theorem joE10_zero {g n:List UInt8} (h:qv S g n=0):yF S g [n]=0∧uO S g n=false:=by
 unfold qv at h
 split at h
 case isFalse hf=>exact absurd h hf
 case isTrue hf =>
 split at h
 ·
  cases h
 ·
  rename_i hi; exact ⟨hf,by simpa using hi⟩
theorem reE10_zero {o n:List UInt8} (h:fS S o n=0):zf n=true∧(n≠o→yV S n=[]):=by
 unfold fS at h
 split at h
 case isFalse=>cases h
 case isTrue hn =>
 split at h
 ·
  cases h
 ·
  rename_i hi
  refine ⟨hn,fun e=>?_⟩
  by_cases e2:yV S n=[]
  ·
   exact e2
  ·
   exact absurd ⟨e,e2⟩ hi

theorem uh.make (h:uh S N M) (hg:zM S k) {g:List UInt8} (he:uS S g=0):uh (qu S g) (xu (N++[g])) M:=by
 obtain ⟨hn,hh,h6⟩:=VH he
 unfold qu
 rw [if_pos he]
 refine ⟨sortT_eq (yM hg.rise g []).names fun x=>?_,fun g' n=>by rw [h.mem,in10_put hg.rise hh]⟩
 rw [QL,h.names]
 simp [or_comm]
theorem uh.drop (h:uh S N M) (hg:zM S k) {g:List UInt8} (he:jY S g=0):uh (jA S g) (xZ N g) (dropM M g):=by
 unfold jA
 rw [if_pos he]
 refine ⟨vX ?_ (yj hg.rise g).names fun x=>?_,fun g' n=>?_⟩
 ·
  rw [h.names]; exact hg.rise.names.filter _
 ·
  rw [QM,h.names]; simp [xZ]
 ·
  rw [in10_del hg.rise,← h.mem]
  simp [dropM]
theorem uh.join (h:uh S N M) (hg:zM S k) {g n:List UInt8} (he:qv S g n=0):uh (qP S g n) N (M++[(g,n)]):=by
 obtain ⟨hf,hi⟩:=joE10_zero he
 obtain ⟨_,_,hh⟩:=jw hf
 unfold qP
 rw [if_pos he]
 refine ⟨by rw [h.names,ql],fun g' n'=>?_⟩
 rw [in10_upd hg.rise,List.mem_append,h.mem,xD hg.rise,List.mem_singleton]
 constructor
 ·
  rintro (⟨p,hp,rfl,h'⟩ | e)
  ·
   refine ⟨p,hp,rfl,?_⟩
   split
   ·
    exact uo.2 (.inr h')
   ·
    exact h'
  ·
   injection e with e1 e2
   subst e1 e2
   obtain ⟨p,hp,e⟩:=xT.1 hh
   exact ⟨p,hp,e,by simp [uo]⟩
 ·
  rintro ⟨p,hp,rfl,h'⟩
  by_cases e:p.1=g
  ·
   rw [if_pos e] at h'
   rcases uo.1 h' with h' | h'
   ·
    right; rw [e,h']
   ·
    exact .inl ⟨p,hp,rfl,h'⟩
  ·
   rw [if_neg e] at h'
   exact .inl ⟨p,hp,rfl,h'⟩
theorem uh.leave (h:uh S N M) (hg:zM S k) {g n:List UInt8} (he:Yd S g n=0):uh (Zz S g n) N (outM M g n):=by
 unfold Zz
 rw [if_pos he]
 refine ⟨by rw [h.names,ql],fun g' n'=>?_⟩
 rw [in10_upd hg.rise,Uo,h.mem,xD hg.rise]
 constructor
 ·
  rintro ⟨⟨p,hp,rfl,h'⟩,h2⟩
  refine ⟨p,hp,rfl,?_⟩
  split
  ·
   rename_i e; exact up.2 ⟨h',h2 e⟩
  ·
   exact h'
 ·
  rintro ⟨p,hp,rfl,h'⟩
  by_cases e:p.1=g
  ·
   rw [if_pos e] at h'
   have:=up.1 h'
   exact ⟨⟨p,hp,rfl,this.1⟩,fun _=>this.2⟩
  ·
   rw [if_neg e] at h'
   exact ⟨⟨p,hp,rfl,h'⟩,fun e'=>absurd e' e⟩
theorem uh.remove (h:uh S N M) (hg:zM S k) (n:List UInt8):uh (jT S n) N (rmM M n):=by
 refine ⟨by rw [h.names]; exact (vv _ S).symm,fun g' n'=>?_⟩
 unfold jT
 rw [UM hg.rise (fun l=>yu l n),rmM_mem,h.mem,xD hg.rise]
 constructor
 ·
  rintro ⟨⟨p,hp,rfl,h'⟩,h2⟩; exact ⟨p,hp,rfl,up.2 ⟨h',h2⟩⟩
 ·
  rintro ⟨p,hp,rfl,h'⟩
  have:=up.1 h'
  exact ⟨⟨p,hp,rfl,this.1⟩,this.2⟩
theorem YV {o n x:List UInt8} {l:zQ}:zx (fR o n l) x=true↔(zx l o=true∧(x=n∨(zx l x=true∧x≠o)))∨(zx l o=false∧zx l x=true):=by
 unfold fR
 cases ho:zx l o
 ·
  simp
 ·
  simp [uo,up]
theorem uh.rename (h:uh S N M) (hg:zM S k) {o n:List UInt8} (he:fS S o n=0):uh (Zq S o n) N (renM M o n):=by
 obtain ⟨hn,hne⟩:=reE10_zero he
 unfold Zq
 rw [if_pos he]
 refine ⟨by rw [h.names]; exact (vv _ S).symm,fun g' n'=>?_⟩
 rw [UM hg.rise (fR o n)]
 simp only [renM,List.mem_map]
 constructor
 ·
  rintro ⟨m,hm,e⟩
  obtain ⟨a,b⟩:=m
  obtain ⟨p,hp,e1,h'⟩:=(xD hg.rise).1 ((h.mem a b).1 hm)
  by_cases eb:b=o
  ·
   subst eb
   simp only [beq_self_eq_true,if_true] at e
   injection e with e2 e3
   subst e2 e3
   exact ⟨p,hp,e1,YV.2 (.inl ⟨h',.inl rfl⟩)⟩
  ·
   have:(b == o)=false:=by simpa using eb
   simp only [this,Bool.false_eq_true,if_false] at e
   injection e with e2 e3
   subst e2 e3
   refine ⟨p,hp,e1,YV.2 ?_⟩
   cases ho:zx p.2 o
   ·
    exact .inr ⟨rfl,h'⟩
   ·
    exact .inl ⟨rfl,.inr ⟨h',eb⟩⟩
 ·
  rintro ⟨p,hp,rfl,h'⟩
  rcases YV.1 h' with ⟨ho,e | ⟨hx,hxo⟩⟩ | ⟨ho,hx⟩
  ·
   subst e
   exact ⟨(p.1,o),(h.mem _ _).2 ((xD hg.rise).2 ⟨p,hp,rfl,ho⟩),by simp⟩
  ·
   exact ⟨(p.1,n'),(h.mem _ _).2 ((xD hg.rise).2 ⟨p,hp,rfl,hx⟩),by simp [hxo]⟩
  ·
   refine ⟨(p.1,n'),(h.mem _ _).2 ((xD hg.rise).2 ⟨p,hp,rfl,hx⟩),?_⟩
   have:n'≠o:=fun e=>by rw [e,ho] at hx; cases hx
   simp [this]

/-! ### what the laws ask -/
theorem removed10 (hr:zA S) (n:List UInt8):yV (jT S n) n=[]:=by
 refine List.eq_nil_iff_forall_not_mem.2 fun g hm=>?_
 unfold jT at hm
 rw [xC (yN hr (vv (fun l:zQ=>yu l n) S)),UM hr (fun l=>yu l n)] at hm
 obtain ⟨p,hp,_,h⟩:=hm
 exact (up.1 h).2 rfl
theorem Xi (g n:List UInt8):zb (qP S g n)=zb S:=by
 unfold qP
 split
 ·
  exact ql _ S g
 ·
  rfl
end
end Go.Proofs.YthmomkjingcbiaaGreatDoor
namespace Go.Proofs.YthmomkjingcbiaaGreatDoor
open Go.RowKit Go.Maps

theorem vu {H:Type} {w:World} {P:Program} {k:TypeId} {R:Value→Option (DataW H×List MemPlace)} {b n:Nat} {D:DataW H} (h:w.ownsMap P k R b n D):w.ownsMap P k R b (Maps.size D) D:=by
 obtain ⟨es,clock,hb,F,_,rfl⟩:=h
 have e1:Maps.size (DataW.map ((es.toList.map (WideElems.rg P k R)).foldr DataW.insert []))=es.size:=by simp [Maps.size,length_sorted]
 exact ⟨es,clock,hb,F,by rw [e1]; exact Nat.le_refl _,rfl⟩
theorem xI:Keyed Tryz.prog 9:=string_keyed Tryz.underlying9
theorem fZ (s:ByteArray) (h:s.size≤maxLen):keyOf Tryz.prog 9 (.string s)=some (.string s.data.toList):=WideMaps.keyOf_string_mk Tryz.underlying9 h
theorem zerob10 (w:World):(zeroValue 4).run Tryz.prog w=.ok (.bool false) w:=by kernel_rfl
theorem U5 (w:World):(zeroValue 208).run Tryz.prog w=.ok (.map none) w:=by kernel_rfl
def zI (l:List UInt8):ByteArray:=⟨l.toArray⟩
theorem zy (l:List UInt8):(zI l).data.toList=l:=by simp [zI]
theorem xo (s:ByteArray):zI s.data.toList=s:=by simp [zI]
theorem xF (l:List UInt8):(zI l).size=l.length:=by rw [← zq,zy]

/-! ### a set of names -/
def et10:Unit→DataW Unit:=fun _=>.lit (.bool true)
def zW (w:World) (b:Nat) (L:zQ):Prop:=w.ownsMap Tryz.prog 9 (plainElem Tryz.prog 4) b L.length (uq et10 L)
theorem zW.of {w:World} {b n:Nat} {L:zQ} (h:w.ownsMap Tryz.prog 9 (plainElem Tryz.prog 4) b n (uq et10 L)):zW w b L:=by
 have:=vu h
 rwa [vz] at this
theorem zW.kept {w w':World} {b:Nat} {L:zQ} (h:zW w b L) (hb:w'.heap[b]? = w.heap[b]?):zW w' b L:=by
 obtain ⟨es,clock,h1,r⟩:=h
 exact ⟨es,clock,hb.trans h1,r⟩
theorem Qv {v:Value} {z:DataW Unit×List MemPlace} (h:plainElem Tryz.prog 4 v=some z):∃ c,v=.bool c∧z=(.lit (.bool c),[]):=by
 cases v <;> simp [plainElem,Tryz.underlying4] at h
 exact ⟨_,rfl,h.symm⟩
theorem Q3 {V:Type} {e:V→DataW Unit} {L:zL V} {k:List UInt8} (z:DataW Unit) (h:xJ L k=none):(uq e L).atKey (.string k) z=z:=by
 rw [datV_at,h]
theorem Yx {V:Type} {e:V→DataW Unit} {L:zL V} {k:List UInt8} {v:V} (z:DataW Unit) (h:xJ L k=some v):(uq e L).atKey (.string k) z=e v:=by
 rw [datV_at,h]
theorem at_unit10 (L:zQ) (k:List UInt8):(uq et10 L).atKey (.string k) (.lit (.bool false))=.lit (.bool (zx L k)):=by
 cases h:xJ L k with
 | none=>rw [Q3 _ h,qz.1 h]
 | some v =>
  have:zx L k=true:=by
   cases hh:zx L k
   ·
    rw [qz.2 hh] at h; cases h
   ·
    rfl
  rw [Yx _ h,this]; rfl
theorem has10 {w:World} {b:Nat} {L:zQ} (h:zW w b L) (s:ByteArray) (hs:s.size≤maxLen) :
  (Instr.lookup 208 (.map (some b)) (.string s) false).run Tryz.prog w=.ok (.bool (zx L s.data.toList)) w:=by
 obtain ⟨v,ps,hrun,hv⟩:=h.lookup xI Tryz.underlying208 (zerob10 w) (plainElem_bool (H:=Unit) Tryz.underlying4 false) (fZ s hs)
 obtain ⟨c,rfl,hc⟩:=Qv hv
 rw [hrun]
 have hc':(uq et10 L).atKey (.string s.data.toList) (.lit (.bool false))=.lit (.bool c):=congrArg Prod.fst hc
 rw [at_unit10] at hc'
 have:zx L s.data.toList=c:=by simpa using hc'
 rw [this]
theorem drop10 {w:World} {b:Nat} {L:zQ} (h:zW w b L) (s:ByteArray) (hs:s.size≤maxLen) (ty:TypeId) :
  ∃ w',(Builtin.delete_ #[208,9] ty #[.map (some b),.string s]).run Tryz.prog w=.ok (.tuple #[]) w'∧zW w' b (yu L s.data.toList)∧w.mapTurned w' b:=by
 obtain ⟨w',hrun,hown,ht⟩:=h.drop xI Tryz.underlying208 (fZ s hs) ty
 rw [UV] at hown
 exact ⟨w',hrun,zW.of hown,ht⟩
theorem add10 {w:World} {b:Nat} {L:zQ} (h:zW w b L) (hf:L.length≤1000) (s:ByteArray) (hs:s.size≤maxLen) :
  ∃ w',(Instr.mapUpdate 208 (.map (some b)) (.string s) (.bool true)).run Tryz.prog w=.ok () w'∧zW w' b (zP L s.data.toList ())∧w.mapTurned w' b:=by
 obtain ⟨w',hrun,hown,ht⟩:=h.store xI Tryz.underlying208 (Nat.lt_of_le_of_lt hf (by decide)) (fZ s hs) (plainElem_bool (H:=Unit) Tryz.underlying4 true)
 have e:uq et10 (zP L s.data.toList ())=(uq et10 L).put (.string s.data.toList) (et10 ()):=(UT et10 L _ ()).symm
 exact ⟨w',hrun,zW.of (by rw [e]; exact hown),ht⟩
theorem set10_made (w:World):zW (w.alloc (.map #[] 0)) w.heap.size [] :=
 zW.of (n:=0) (World.ownsMap_made (H:=Unit) w Tryz.prog 9 (plainElem Tryz.prog 4))

/-! ### groups -/
abbrev zF:=zL (Nat×zQ)
def R10:Value→Option (DataW Unit×List MemPlace)
 | .map (some b)=>some (.lit (.int .i64 b),[])
 | .map none=>some (.nil,[])
 | _=>none
def Ve:Nat×zQ→DataW Unit:=fun p=>.lit (.int .i64 p.1)
def zj (T:zF):zw:=T.map fun p=>(p.1,p.2.2)
def qi (T:zF) (g:List UInt8):Option Nat:=(xJ T g).map (·.1)
def ob10:Option Nat→DataW Unit
 | some b=>.lit (.int .i64 b)
 | none=>.nil
theorem Yq {o o':Option Nat} (h:ob10 o=ob10 o'):o=o':=by
 cases o with
 | none=>cases o' with
  | none=>rfl
  | some b=>cases h
 | some a=>cases o' with
  | none=>cases h
  | some b =>
   unfold ob10 at h
   injection h with h
   injection h with _ h
   rw [Int.ofNat.inj h]
theorem at_blk10 (T:zF) (k:List UInt8):(uq Ve T).atKey (.string k) .nil=ob10 (qi T k):=by
 unfold qi
 cases h:xJ T k with
 | none=>rw [Q3 _ h]; rfl
 | some v=>rw [Yx _ h]; rfl
theorem Zr {v:Value} {z:DataW Unit×List MemPlace} (h:R10 v=some z):∃ o,v=.map o∧z.1=ob10 o:=by
 unfold R10 at h
 split at h
 ·
  cases h; exact ⟨_,rfl,rfl⟩
 ·
  cases h; exact ⟨_,rfl,rfl⟩
 ·
  cases h

structure zT (w:World) (B:Nat) (p:Option Nat) (T:zF):Prop where
 blk:w.heap[B]? = some (.cells #[.map p] 167 (0,0))
 nil:p=none→T=[]
 map:∀ b,p=some b→w.ownsMap Tryz.prog 9 R10 b T.length (uq Ve T)
 sets:∀ x∈T,zW w x.2.1 x.2.2
 one:∀ x∈T,∀ y∈T,x.2.1=y.2.1→x.1=y.1
 off:∀ x∈T,p≠some x.2.1
 rise:zA T

theorem ye {w:World} {b B n:Nat} {R:Value→Option (DataW Unit×List MemPlace)} {D:DataW Unit} {c:Array Value} {T:TypeId} {fr:Nat×Nat} (hm:w.ownsMap Tryz.prog 9 R b n D) (hB:w.heap[B]? = some (.cells c T fr)):b≠B:=fun e=>by
 obtain ⟨es,clock,h1,_⟩:=hm
 subst e
 rw [hB] at h1
 cases h1
section
variable {w w':World} {B:Nat} {p:Option Nat} {T:zF}
theorem zT.lt (h:zT w B p T):B<w.heap.size:=(Array.getElem?_eq_some_iff.1 h.blk).1
theorem zT.mlt (h:zT w B p T):∀ b,p=some b→b<w.heap.size:=fun b hb=>(h.map b hb).lt
theorem zT.slt (h:zT w B p T):∀ x∈T,x.2.1<w.heap.size:=fun x hx=>World.ownsMap.lt (h.sets x hx)
theorem zT.cell (h:zT w B p T):w.cell? ⟨B,0,none⟩=some (.map p):=by simp [World.cell?,h.blk]
theorem zT.frozen (h:zT w B p T):w.frozen? ⟨B,0,none⟩=false:=by simp [World.frozen?,h.blk]
theorem zT.mne (h:zT w B p T):∀ b,p=some b→b≠B:=fun b hb=>ye (h.map b hb) h.blk
theorem zT.sne (h:zT w B p T):∀ x∈T,x.2.1≠B:=fun x hx=>ye (h.sets x hx) h.blk
theorem zT.turns {S:Nat→Prop} (h:zT w B p T) (ht:zm S w w') (hB:¬ S B) (hp:∀ b,p=some b→¬ S b) (hs:∀ x∈T,¬ S x.2.1):zT w' B p T:=by
 refine ⟨(ht.block B h.lt hB).trans h.blk,h.nil,fun b hb=>?_,fun x hx=>(h.sets x hx).kept (ht.block _ (h.slt x hx) (hs x hx)),h.one,h.off,h.rise⟩
 obtain ⟨es,clock,h1,r⟩:=h.map b hb
 exact ⟨es,clock,(ht.block b (h.mlt b hb) (hp b hb)).trans h1,r⟩
theorem zT.later (h:zT w B p T) (hb:Below w.heap.size w w'):zT w' B p T:=h.turns (zm.of_below hb (fun _=>False)) (fun f=>f) (fun _ _ f=>f) (fun _ _ f=>f)

theorem look10 (h:zT w B p T) (s:ByteArray) (hs:s.size≤maxLen) :
  (Instr.lookup 165 (.map p) (.string s) true).run Tryz.prog w=.ok (.tuple #[.map (qi T s.data.toList),.bool (zx T s.data.toList)]) w:=by
 cases p with
 | none =>
  have hL:=h.nil rfl
  subst hL
  exact Maps.look_nil (P:=Tryz.prog) (w:=w) (t:=165) true xI Tryz.underlying165 (U5 w) (fZ s hs)
 | some b =>
  obtain ⟨v,ps,hrun,hv⟩:=(h.map b rfl).look_ok xI Tryz.underlying165 (U5 w) (show R10 (.map none)=some (.nil,[]) from rfl) (fZ s hs)
  obtain ⟨o,rfl,ho⟩:=Zr hv
  rw [hrun,Z7]
  have ho':(uq Ve T).atKey (.string s.data.toList) .nil=ob10 o:=ho
  rw [at_blk10] at ho'
  rw [Yq ho']
theorem Xf (h:zT w B p T) (s:ByteArray) (hs:s.size≤maxLen) :
  (Instr.lookup 165 (.map p) (.string s) false).run Tryz.prog w=.ok (.map (qi T s.data.toList)) w:=by
 cases p with
 | none =>
  have hL:=h.nil rfl
  subst hL
  exact Maps.look_nil (P:=Tryz.prog) (w:=w) (t:=165) false xI Tryz.underlying165 (U5 w) (fZ s hs)
 | some b =>
  obtain ⟨v,ps,hrun,hv⟩:=(h.map b rfl).lookup xI Tryz.underlying165 (U5 w) (show R10 (.map none)=some (.nil,[]) from rfl) (fZ s hs)
  obtain ⟨o,rfl,ho⟩:=Zr hv
  rw [hrun]
  have ho':(uq Ve T).atKey (.string s.data.toList) .nil=ob10 o:=ho
  rw [at_blk10] at ho'
  rw [Yq ho']
theorem len10 (h:zT w B p T) (ty:TypeId):(Builtin.len_ #[165] ty #[.map p]).run Tryz.prog w=.ok (.int .i64 T.length) w:=by
 cases p with
 | none =>
  have hL:=h.nil rfl
  subst hL
  exact Maps.len_nil Tryz.underlying165 ty
 | some b =>
  have:=(h.map b rfl).len (t:=165) Tryz.underlying165 ty
  rwa [vz] at this
theorem nilmap10 (w:World) (p:Option Nat):(binOp .eql 165 (.map p) (.map none)).run Tryz.prog w=.ok (.bool p.isNone) w :=
 run_eql_map_nil_sl w 165 _ _ p Tryz.underlying165
end

theorem vI (T:zF) (k:List UInt8):zx (zj T) k=zx T k:=map_hasV (fun v:Nat×zQ=>v.2) T k
theorem xB (T:zF):zb (zj T)=zb T:=vv (fun v:Nat×zQ=>v.2) T
theorem uF (T:zF):(zj T).length=T.length:=List.length_map _
theorem X1 (T:zF) (k:List UInt8) (v:Nat×zQ):zj (zP T k v)=zP (zj T) k v.2:=map_putV (fun v:Nat×zQ=>v.2) T k v
theorem Ff (T:zF) (k:List UInt8):zj (yu T k)=yu (zj T) k:=Uy (fun v:Nat×zQ=>v.2) T k
theorem Fe (f:zQ→zQ) (T:zF) (k:List UInt8):zj (ZP (fun v=>(v.1,f v.2)) T k)=ZP f (zj T) k:=by
 unfold zj ZP
 rw [List.map_map,List.map_map]
 refine List.map_congr_left fun x _=>?_
 show (let y:=if x.1=k then (x.1,(x.2.1,f x.2.2)) else x; (y.1,y.2.2))=if x.1=k then (x.1,f x.2.2) else (x.1,x.2.2)
 by_cases e:x.1=k
 ·
  rw [if_pos e,if_pos e]
 ·
  rw [if_neg e,if_neg e]
theorem X2 {T:zF} (hr:zA T) {x:List UInt8×(Nat×zQ)} (hx:x∈T):QQ (zj T) x.1=x.2.2:=by
 have h1:zA (zj T):=yN hr (xB T)
 have h2:(x.1,x.2.2)∈zj T:=List.mem_map.2 ⟨x,hx,rfl⟩
 exact Yr h1 h2
theorem vM {T:zF} (hr:zA T) {x:List UInt8×(Nat×zQ)} (hx:x∈T):qi T x.1=some x.2.1:=by
 unfold qi
 rw [(zH hr).2 (show (x.1,x.2)∈T from hx)]; rfl
theorem VX {T:zF} {k:List UInt8} (h:zx T k=false):qi T k=none:=by
 unfold qi
 rw [qz.2 h]; rfl
theorem fF {V:Type} {f:V→V} {L:zL V} {k:List UInt8} {p:List UInt8×V} (h:p∈ZP f L k):∃ q∈L,p=(q.1,if q.1=k then f q.2 else q.2):=by
 obtain ⟨q,hq,rfl⟩:=List.mem_map.1 h
 refine ⟨q,hq,?_⟩
 by_cases e:q.1=k
 ·
  rw [if_pos e,if_pos e]
 ·
  rw [if_neg e,if_neg e]
theorem zT.turned {w w':World} {B:Nat} {p:Option Nat} {T:zF} (h:zT w B p T) {x:List UInt8×(Nat×zQ)} (hx:x∈T) (f:zQ→zQ) (hs:zW w' x.2.1 (f x.2.2)) (ht:zm (fun i=>i=x.2.1) w w'):zT w' B p (ZP (fun v=>(v.1,f v.2)) T x.1):=by
 have hbb:∀ q∈T,(if q.1=x.1 then (q.2.1,f q.2.2) else q.2).1=q.2.1:=fun q _=>by split <;> rfl
 refine ⟨(ht.block B h.lt (fun e=>h.sne x hx e.symm)).trans h.blk,fun e=>?_,fun b hb=>?_,fun y hy=>?_,fun y hy z hz e=>?_,fun y hy=>?_,YS h.rise _ _⟩
 ·
  rw [h.nil e] at hx; cases hx
 ·
  have e1:uq Ve (ZP (fun v=>(v.1,f v.2)) T x.1)=uq Ve T:=datV_upd (e:=Ve) (f:=fun v=>(v.1,f v.2)) (fun _=>rfl) T x.1
  rw [e1,show (ZP (fun v:Nat×zQ=>(v.1,f v.2)) T x.1).length=T.length from List.length_map _]
  obtain ⟨es,clock,h1,r⟩:=h.map b hb
  exact ⟨es,clock,(ht.block b (h.mlt b hb) (fun e=>h.off x hx (by rw [hb,e]))).trans h1,r⟩
 ·
  obtain ⟨q,hq,rfl⟩:=fF hy
  by_cases e:q.1=x.1
  ·
   have:=YT h.rise hq hx e
   subst this
   simp only [if_true]
   exact hs
  ·
   simp only [e,if_false]
   exact (h.sets q hq).kept (ht.block _ (h.slt q hq) (fun e'=>e (h.one q hq x hx e')))
 ·
  obtain ⟨q,hq,rfl⟩:=fF hy
  obtain ⟨r,hr,rfl⟩:=fF hz
  simp only [hbb q hq,hbb r hr] at e
  exact h.one q hq r hr e
 ·
  obtain ⟨q,hq,rfl⟩:=fF hy
  simp only [hbb q hq]
  exact h.off q hq

def Turn10 (B:Nat) (p:Option Nat) (T:zF) (w w':World):Prop:=zm (fun i=>i=B∨p=some i∨∃ x∈T,x.2.1=i) w w'
def zU (w:World) (B:Nat) (p:Option Nat) (T:zF) (S':zw) (w':World):Prop :=
 ∃ p' T',zT w' B p' T'∧zj T'=S'∧(∀ b,p'=some b→p=some b∨w.heap.size≤b)∧(∀ x∈T',(∃ y∈T,y.2.1=x.2.1)∨w.heap.size≤x.2.1)∧Turn10 B p T w w'
theorem zU.still {w w':World} {B:Nat} {p:Option Nat} {T:zF} (h:zT w B p T) (hb:Below w.heap.size w w'):zU w B p T (zj T) w' :=
 ⟨p,T,h.later hb,rfl,fun _ e=>.inl e,fun x hx=>.inl ⟨x,hx,rfl⟩,zm.of_below hb _⟩
theorem zU.ahead {w w1 w':World} {B:Nat} {p:Option Nat} {T:zF} {S':zw} (hb:Below w.heap.size w w1) (h:zU w1 B p T S' w'):zU w B p T S' w':=by
 obtain ⟨p',T',hd,hS,hp,hx,ht⟩:=h
 exact ⟨p',T',hd,hS,fun b e=>(hp b e).imp id (fun h=>Nat.le_trans hb.size h),fun x hh=>(hx x hh).imp id (fun h=>Nat.le_trans hb.size h),(zm.of_below hb _).next ht (fun i _ h=>h)⟩

set_option maxRecDepth 100000 in
theorem XN (s:ByteArray) (w:World) (hs:s.size≤9223372036854775807) :
  Calls Tryz.prog 242 #[.string s] w (zY (!zf s.data.toList) w):=by
 have HN:=za (yb s w hs)
 cases hb:zf s.data.toList with
 | false =>
  rw [hb] at HN
  have HN2:Hid (Calls Tryz.prog 52 #[.string s] w (yH 10 w)):=HN.out
  clear HN hb
  go_enter Tryz.func242,Tryz.ntmps242
  go_wp2_with fail
  with_reducible refine HN2.out.mono ?_
  rintro e w1 ⟨rfl,hb⟩
  have HB:=za hb
  clear hb HN2
  go_wp2
  go_ret
  exact ⟨rfl,HB.out⟩
 | true =>
  rw [hb] at HN
  have HN2:Hid (Calls Tryz.prog 52 #[.string s] w (yH 0 w)):=HN.out
  clear HN hb
  go_enter Tryz.func242,Tryz.ntmps242
  go_wp2_with fail
  with_reducible refine HN2.out.mono ?_
  rintro e w1 ⟨rfl,hb⟩
  have HB:=za hb
  clear hb HN2
  go_wp2
  go_ret
  exact ⟨rfl,HB.out⟩

set_option maxRecDepth 100000 in
theorem J3 (fv:Value) (w:World):Calls Tryz.prog 135 #[.slice none 0 0,fv] w fun e w'=>e=.returned (.int .i64 (-1))∧w'=w:=by
 go_enter Tryz.func135,Tryz.ntmps135
 go_wp2
 refine wp_loop_rounds 1 ?_
 rw [rounds_succ]
 go_wp2
 go_ret
 exact ⟨rfl,rfl⟩
set_option maxRecDepth 100000 in
theorem Fs (g:Nat) (B:Nat) (s:ByteArray) (b:Bool) (w:World) (eg:∀ args w,(callFunc g args).run Tryz.prog w=.ok (.enter g args) w) (hc:w.cell? ⟨B,0,none⟩=some (.string s)) (hp:Calls Tryz.prog g #[.string s] w (zY b w)) :
  Calls Tryz.prog 135 #[.slice (some ⟨B,0,none⟩) 1 1,.func (.func g) #[] #[]] w fun e w'=>e=.returned (.int .i64 (if b then 0 else -1))∧Below w.heap.size w w':=by
 have HP:=za hp
 clear hp
 cases b with
 | true =>
  go_enter Tryz.func135,Tryz.ntmps135
  go_wp2
  refine wp_loop_rounds 1 ?_
  rw [rounds_succ]
  go_wp2_with (go_at_fn g; (with_reducible refine HP.out.mono ?_); rintro e w1 ⟨rfl,hb⟩; have HB:=za hb; clear hb)
  go_ret
  exact ⟨rfl,HB.out⟩
 | false =>
  go_enter Tryz.func135,Tryz.ntmps135
  go_wp2
  refine wp_loop_rounds 2 ?_
  rw [rounds_succ]
  go_wp2_with (go_at_fn g; (with_reducible refine HP.out.mono ?_); rintro e w1 ⟨rfl,hb⟩; have HB:=za hb; clear hb)
  rw [rounds_succ]
  go_wp2
  go_ret
  exact ⟨rfl,HB.out⟩
set_option maxRecDepth 100000 in
theorem XH (fv:Value) (w:World):Calls Tryz.prog 241 #[.slice none 0 0,fv] w fun e w'=>e=.returned (.bool false)∧w'=w:=by
 have HP:=za (J3 fv w)
 go_enter Tryz.func241,Tryz.ntmps241
 go_wp2_with fail
 with_reducible refine HP.out.mono ?_
 rintro e w1 ⟨rfl,rfl⟩
 go_wp2
 go_ret
 exact ⟨rfl,rfl⟩
set_option maxRecDepth 100000 in
theorem Vg (g:Nat) (B:Nat) (s:ByteArray) (b:Bool) (w:World) (eg:∀ args w,(callFunc g args).run Tryz.prog w=.ok (.enter g args) w) (hc:w.cell? ⟨B,0,none⟩=some (.string s)) (hp:Calls Tryz.prog g #[.string s] w (zY b w)) :
  Calls Tryz.prog 241 #[.slice (some ⟨B,0,none⟩) 1 1,.func (.func g) #[] #[]] w (zY b w):=by
 have HP:=za (Fs g B s b w eg hc hp)
 clear hp hc
 cases b with
 | true =>
  go_enter Tryz.func241,Tryz.ntmps241
  go_wp2_with fail
  with_reducible refine HP.out.mono ?_
  rintro e w1 ⟨rfl,hb⟩
  have HB:=za hb
  clear hb HP
  go_wp2
  go_ret
  exact ⟨rfl,HB.out⟩
 | false =>
  go_enter Tryz.func241,Tryz.ntmps241
  go_wp2_with fail
  with_reducible refine HP.out.mono ?_
  rintro e w1 ⟨rfl,hb⟩
  have HB:=za hb
  clear hb HP
  go_wp2
  go_ret
  exact ⟨rfl,HB.out⟩
set_option maxRecDepth 100000 in
theorem Za (w:World):Calls Tryz.prog 200 #[.slice none 0 0] w fun e w'=>e=.returned (.bool true)∧w'=w:=by
 have HP:=za (XH (.func (.func 242) #[] #[]) w)
 go_enter Tryz.func200,Tryz.ntmps200
 go_wp2_with fail
 with_reducible refine HP.out.mono ?_
 rintro e w1 ⟨rfl,rfl⟩
 go_wp2
 go_ret
 exact ⟨rfl,rfl⟩
set_option maxRecDepth 100000 in
theorem ud (B:Nat) (s:ByteArray) (w:World) (hs:s.size≤9223372036854775807) (hc:w.cell? ⟨B,0,none⟩=some (.string s)):Calls Tryz.prog 200 #[.slice (some ⟨B,0,none⟩) 1 1] w (zY (zf s.data.toList) w):=by
 have HP:=za (Vg _ B s _ w (enters_of Tryz.func242 (by kernel_rfl) rfl) hc (XN s w hs))
 clear hc
 generalize zf s.data.toList=b at *
 cases b with
 | true =>
  go_enter Tryz.func200,Tryz.ntmps200
  go_wp2_with fail
  with_reducible refine HP.out.mono ?_
  rintro e w1 ⟨rfl,hb⟩
  have HB:=za hb
  clear hb HP
  go_wp2
  go_ret
  exact ⟨rfl,HB.out⟩
 | false =>
  go_enter Tryz.func200,Tryz.ntmps200
  go_wp2_with fail
  with_reducible refine HP.out.mono ?_
  rintro e w1 ⟨rfl,hb⟩
  have HB:=za hb
  clear hb HP
  go_wp2
  go_ret
  exact ⟨rfl,HB.out⟩

/-! ### has -/
set_option maxRecDepth 100000 in
theorem Ft (s:ByteArray) (w:World):Calls Tryz.prog 208 #[.string s] w fun e w'=>e=.returned (.func (.func 247) #[] #[.pointer (some ⟨w.heap.size,0,none⟩)])∧w'=w.alloc (.cells #[.string s] 9):=by
 have hmf:=mkf
 go_enter Tryz.func208,Tryz.ntmps208
 go_wp2
 go_ret
 exact ⟨rfl,rfl⟩
set_option maxRecDepth 100000 in
theorem has1_calls (C b:Nat) (L:zQ) (s:ByteArray) (w:World) (hs:s.size≤maxLen) (hc:w.cell? ⟨C,0,none⟩=some (.string s)) (h:zW w b L):Calls Tryz.prog 247 #[.map (some b),.pointer (some ⟨C,0,none⟩)] w fun e w'=>e=.returned (.bool (zx L s.data.toList))∧w'=w:=by
 have hl:=has10 h s hs
 generalize zx L s.data.toList=r at *
 clear h
 go_enter Tryz.func247,Tryz.ntmps247
 go_wp2
 go_ret
 exact ⟨rfl,rfl⟩

/-! ### every -/
set_option maxRecDepth 100000 in
theorem UJ (fv:Value) (w:World):Calls Tryz.prog 276 #[.slice none 0 0,fv] w fun e w'=>e=.returned (.int .i64 (-1))∧w'=w:=by
 go_enter Tryz.func276,Tryz.ntmps276
 go_wp2
 refine wp_loop_rounds 1 ?_
 rw [rounds_succ]
 go_wp2
 go_ret
 exact ⟨rfl,rfl⟩
set_option maxRecDepth 100000 in
theorem J2 (g:Nat) (B C:Nat) (f:Value) (b:Bool) (w:World) (eg:∀ args w,(callFunc g args).run Tryz.prog w=.ok (.enter g args) w) (hc:w.cell? ⟨B,0,none⟩=some f) (hp:Calls Tryz.prog g #[f,.pointer (some ⟨C,0,none⟩)] w (zY b w)) :
  Calls Tryz.prog 276 #[.slice (some ⟨B,0,none⟩) 1 1,.func (.func g) #[] #[.pointer (some ⟨C,0,none⟩)]] w fun e w'=>e=.returned (.int .i64 (if b then 0 else -1))∧Below w.heap.size w w':=by
 have HP:=za hp
 clear hp
 cases b with
 | true =>
  go_enter Tryz.func276,Tryz.ntmps276
  go_wp2
  refine wp_loop_rounds 1 ?_
  rw [rounds_succ]
  go_wp2_with (go_at_fn g; (with_reducible refine HP.out.mono ?_); rintro e w1 ⟨rfl,hb⟩; have HB:=za hb; clear hb)
  go_ret
  exact ⟨rfl,HB.out⟩
 | false =>
  go_enter Tryz.func276,Tryz.ntmps276
  go_wp2
  refine wp_loop_rounds 2 ?_
  rw [rounds_succ]
  go_wp2_with (go_at_fn g; (with_reducible refine HP.out.mono ?_); rintro e w1 ⟨rfl,hb⟩; have HB:=za hb; clear hb)
  rw [rounds_succ]
  go_wp2
  go_ret
  exact ⟨rfl,HB.out⟩
set_option maxRecDepth 100000 in
theorem Yi (fv:Value) (w:World):Calls Tryz.prog 261 #[.slice none 0 0,fv] w fun e w'=>e=.returned (.bool false)∧w'=w:=by
 have HP:=za (UJ fv w)
 go_enter Tryz.func261,Tryz.ntmps261
 go_wp2_with fail
 with_reducible refine HP.out.mono ?_
 rintro e w1 ⟨rfl,rfl⟩
 go_wp2
 go_ret
 exact ⟨rfl,rfl⟩
set_option maxRecDepth 100000 in
theorem XG (g:Nat) (B C:Nat) (f:Value) (b:Bool) (w:World) (eg:∀ args w,(callFunc g args).run Tryz.prog w=.ok (.enter g args) w) (hc:w.cell? ⟨B,0,none⟩=some f) (hp:Calls Tryz.prog g #[f,.pointer (some ⟨C,0,none⟩)] w (zY b w)) :
  Calls Tryz.prog 261 #[.slice (some ⟨B,0,none⟩) 1 1,.func (.func g) #[] #[.pointer (some ⟨C,0,none⟩)]] w (zY b w):=by
 have HP:=za (J2 g B C f b w eg hc hp)
 clear hp hc
 cases b with
 | true =>
  go_enter Tryz.func261,Tryz.ntmps261
  go_wp2_with fail
  with_reducible refine HP.out.mono ?_
  rintro e w1 ⟨rfl,hb⟩
  have HB:=za hb
  clear hb HP
  go_wp2
  go_ret
  exact ⟨rfl,HB.out⟩
 | false =>
  go_enter Tryz.func261,Tryz.ntmps261
  go_wp2_with fail
  with_reducible refine HP.out.mono ?_
  rintro e w1 ⟨rfl,hb⟩
  have HB:=za hb
  clear hb HP
  go_wp2
  go_ret
  exact ⟨rfl,HB.out⟩
set_option maxRecDepth 100000 in
theorem Fy (p:Option Nat) (w:World):Calls Tryz.prog 246 #[.map p,.slice none 0 0] w (zY true w):=by
 have hmf:=mkf
 have HP:Hid (∀ fv W,Calls Tryz.prog 261 #[.slice none 0 0,fv] W fun e w'=>e=.returned (.bool false)∧w'=W):=Yi
 have HB:=za (z7 (Below.refl w.heap.size w) (.cells #[.map p] 208))
 go_enter Tryz.func246,Tryz.ntmps246
 go_wp2_with fail
 with_reducible refine (HP.out _ _).mono ?_
 rintro e w1 ⟨rfl,rfl⟩
 go_wp2
 go_ret
 exact ⟨rfl,HB.out⟩
set_option maxRecDepth 100000 in
theorem UQ (C D b:Nat) (L:zQ) (s:ByteArray) (w:World) (hs:s.size≤maxLen) (hC:w.cell? ⟨C,0,none⟩=some (.string s)) (hD:w.cell? ⟨D,0,none⟩=some (.map (some b))) (h:zW w b L) :
  Calls Tryz.prog 262 #[.func (.func 247) #[] #[.pointer (some ⟨C,0,none⟩)],.pointer (some ⟨D,0,none⟩)] w (zY (!zx L s.data.toList) w):=by
 have eg:∀ args w,(callFunc 247 args).run Tryz.prog w=.ok (.enter 247 args) w:=enters_of Tryz.func247 (by kernel_rfl) rfl
 have HP:Hid (Calls Tryz.prog 247 #[.map (some b),.pointer (some ⟨C,0,none⟩)] w (zY (zx L s.data.toList) w)):=(has1_calls C b L s w hs hC h).mono fun e w' ⟨he,hw⟩=>⟨he,by rw [hw]; exact Below.refl _ _⟩
 clear hC h
 generalize zx L s.data.toList=r at *
 cases r with
 | true =>
  show Calls _ _ _ _ (zY false w)
  go_enter Tryz.func262,Tryz.ntmps262
  go_wp2_with (go_at_fn 247; (with_reducible refine HP.out.mono ?_); rintro e w1 ⟨rfl,hb⟩; have HB:=za hb; clear hb)
  go_ret
  exact ⟨rfl,HB.out⟩
 | false =>
  show Calls _ _ _ _ (zY true w)
  go_enter Tryz.func262,Tryz.ntmps262
  go_wp2_with (go_at_fn 247; (with_reducible refine HP.out.mono ?_); rintro e w1 ⟨rfl,hb⟩; have HB:=za hb; clear hb)
  go_ret
  exact ⟨rfl,HB.out⟩
set_option maxRecDepth 100000 in
theorem everys_one (A C b:Nat) (L:zQ) (s:ByteArray) (w:World) (hs:s.size≤maxLen) (hA:w.cell? ⟨A,0,none⟩=some (.func (.func 247) #[] #[.pointer (some ⟨C,0,none⟩)])) (hC:w.cell? ⟨C,0,none⟩=some (.string s)) (h:zW w b L) :
  Calls Tryz.prog 246 #[.map (some b),.slice (some ⟨A,0,none⟩) 1 1] w (zY (zx L s.data.toList) w):=by
 have hmf:=mkf
 have hb:=z7 (Below.refl w.heap.size w) (.cells #[.map (some b)] 208)
 have lA:A<w.heap.size:=World.block_lt_of_cell? w _ hA
 have lC:C<w.heap.size:=World.block_lt_of_cell? w _ hC
 have cA:=(hb.cell (p:=⟨A,0,none⟩) lA).trans hA
 have cC:=(hb.cell (p:=⟨C,0,none⟩) lC).trans hC
 have cD:(w.alloc (.cells #[.map (some b)] 208)).cell? ⟨w.heap.size,0,none⟩=some (.map (some b)):=by rw [World.cell?_alloc_at _ _ _ _ rfl]; rfl
 have HP:=za (XG _ A w.heap.size _ _ _ (enters_of Tryz.func262 (by kernel_rfl) rfl) cA (UQ C w.heap.size b L s _ hs cC cD (h.kept (hb.block b (World.ownsMap.lt h)))))
 have HB:=za hb
 clear hb cA cC cD h hA hC lA lC
 generalize zx L s.data.toList=r at *
 cases r with
 | true =>
  go_enter Tryz.func246,Tryz.ntmps246
  go_wp2_with fail
  with_reducible refine HP.out.mono ?_
  rintro e w1 ⟨rfl,hb1⟩
  have HB1:=za (z8 HB.out hb1)
  clear hb1 HP
  go_wp2
  go_ret
  exact ⟨rfl,HB1.out⟩
 | false =>
  go_enter Tryz.func246,Tryz.ntmps246
  go_wp2_with fail
  with_reducible refine HP.out.mono ?_
  rintro e w1 ⟨rfl,hb1⟩
  have HB1:=za (z8 HB.out hb1)
  clear hb1 HP
  go_wp2
  go_ret
  exact ⟨rfl,HB1.out⟩

set_option maxRecDepth 100000 in
theorem xb (s:ByteArray) (w:World) (hl:s.size≤1000):Calls Tryz.prog 153 #[.string s] w fun e w'=>e=.returned (.string s)∧Below w.heap.size w w':=by
 have HC:=za (Tryz.stringslite_Clone s w (Nat.le_trans hl (by decide)))
 go_enter Tryz.func153,Tryz.ntmps153
 go_wp2_with fail
 with_reducible refine HC.out.mono ?_
 rintro e w1 ⟨rfl,hb⟩
 have HB:=za hb
 clear hb
 go_wp2
 go_ret
 exact ⟨rfl,HB.out⟩

set_option maxRecDepth 100000 in
theorem qc (b:Nat) (L:zQ) (s:ByteArray) (w:World) (h:zW w b L) (hf:L.length≤1000) (hs:s.size≤1000) :
  Calls Tryz.prog 224 #[.map (some b),.string s] w fun e w'=>e=.returned (.tuple #[])∧zW w' b (zP L s.data.toList ())∧zm (fun i=>i=b) w w':=by
 have HC:=za (xb s w hs)
 have HA:Hid (∀ W,Below w.heap.size w W→∃ w',(Instr.mapUpdate 208 (.map (some b)) (.string s) (.bool true)).run Tryz.prog W=.ok () w'∧zW w' b (zP L s.data.toList ())∧zm (fun i=>i=b) w w'):=fun W hb=>by
  obtain ⟨w',h1,h2,h3⟩:=add10 (h.kept (hb.block b (World.ownsMap.lt h))) hf s (Nat.le_trans hs (by decide))
  exact ⟨w',h1,h2,(zm.of_below hb _).grown h3.grown (fun k hk _=>by cases hk; rfl)⟩
 clear h
 go_enter Tryz.func224,Tryz.ntmps224
 go_wp2_with fail
 with_reducible refine HC.out.mono ?_
 rintro e w1 ⟨rfl,hb⟩
 obtain ⟨w2,hrun,h2,h3⟩:=HA.out w1 hb
 have H2:=za h2
 have H3:=za h3
 clear hb h2 h3 HA HC
 go_wp2
 go_end0
 exact ⟨rfl,H2.out,H3.out⟩

set_option maxRecDepth 100000 in
theorem fp (w:World):Calls Tryz.prog 64 #[] w fun e w'=>e=.returned (.pointer (some ⟨w.heap.size,0,none⟩))∧w'=w.alloc (.cells #[.map none] 167):=by
 go_enter Tryz.func64,Tryz.ntmps64
 go_wp2
 go_ret
 exact ⟨rfl,rfl⟩
theorem Xu (w:World):zT (w.alloc (.cells #[.map none] 167)) w.heap.size none [] :=
 ⟨(MapKept.heap_alloc w _).1,(fun _=>rfl),(fun _ h=>nomatch h),(fun _ h=>nomatch h),(fun _ h=>nomatch h),(fun _ h=>nomatch h),List.Pairwise.nil⟩

def uL (w:World) (B:Nat) (p:Option Nat) (T':zF) (w':World):Prop :=
 ∃ p',zT w' B p' T'∧(∀ c,p'=some c→p=some c∨w.heap.size≤c)∧zm (fun i=>i=B∨p=some i) w w'
theorem J6 {w w':World} {B m b:Nat} {T:zF} {l:zQ} {k:List UInt8} {n:Nat} (h:zT w B (some m) T) (hs:zW w b l) (hn:∀ x∈T,x.2.1≠b) (hm:m≠b) (ht:w.mapTurned w' m)
  (hown:w'.ownsMap Tryz.prog 9 R10 m n (uq Ve (zP T k (b,l)))):zT w' B (some m) (zP T k (b,l)):=by
 have htn:zm (fun i=>i=m) w w':=(zm.refl _ w).grown ht.grown (fun k hk _=>by cases hk; rfl)
 refine ⟨(htn.block B h.lt (fun e=>h.mne m rfl e.symm)).trans h.blk,(fun e=>nomatch e),fun c hc=>?_,fun x hx=>?_,fun x hx y hy e=>?_,fun x hx=>?_,yM h.rise _ _⟩
 ·
  cases hc
  have:=vu hown
  rwa [vz] at this
 ·
  rcases yD.1 hx with rfl | ⟨hx,_⟩
  ·
   exact hs.kept (htn.block b (World.ownsMap.lt hs) (fun e=>hm e.symm))
  ·
   exact (h.sets x hx).kept (htn.block _ (h.slt x hx) (fun e=>h.off x hx (by rw [e])))
 ·
  rcases yD.1 hx with rfl | ⟨hx,_⟩ <;> rcases yD.1 hy with rfl | ⟨hy,_⟩
  ·
   rfl
  ·
   exact absurd e.symm (hn y hy)
  ·
   exact absurd e (hn x hx)
  ·
   exact h.one x hx y hy e
 ·
  rcases yD.1 hx with rfl | ⟨hx,_⟩
  ·
   intro e; injection e with e; exact hm e
  ·
   exact h.off x hx
theorem Xt {w:World} {B m b:Nat} {T:zF} {l:zQ} (h:zT w B (some m) T) (hs:zW w b l) (hn:∀ x∈T,x.2.1≠b) (hm:m≠b) (hf:T.length≤1000) (g:ByteArray) (hg:g.size≤maxLen) :
  ∃ w',(Instr.mapUpdate 165 (.map (some m)) (.string g) (.map (some b))).run Tryz.prog w=.ok () w'∧zT w' B (some m) (zP T g.data.toList (b,l))∧zm (fun i=>i=m) w w':=by
 obtain ⟨w',hrun,hown,ht⟩:=(h.map m rfl).store xI Tryz.underlying165 (Nat.lt_of_le_of_lt hf (by decide)) (fZ g hg) (show R10 (.map (some b))=some (.lit (.int .i64 b),[]) from rfl)
 have e:uq Ve (zP T g.data.toList (b,l))=(uq Ve T).put (.string g.data.toList) (.lit (.int .i64 b)):=(UT Ve T _ (b,l)).symm
 exact ⟨w',hrun,J6 h hs hn hm ht (by rw [e]; exact hown),(zm.refl _ w).grown ht.grown (fun k hk _=>by cases hk; rfl)⟩

def YP10 (B m b:Nat) (g:ByteArray):Nat→Value→Prop
 | 3,v=>v=.map (some m)
 | 4,v=>v=.string g
 | 5,v=>v=.string g
 | 6,v=>v=.map (some b)
 | _,v=>v=.pointer (some ⟨B,0,none⟩)
def YPut10 (B m b:Nat) (g:ByteArray) (j:Nat) (v:Value) (_:World):Prop:=YP10 B m b g j v

set_option maxRecDepth 100000 in
theorem put10_some (B m b:Nat) (T:zF) (l:zQ) (g:ByteArray) (w:World) (h:zT w B (some m) T) (hs:zW w b l) (hn:∀ x∈T,x.2.1≠b) (hm:m≠b) (hf:T.length≤1000) (hg:g.size≤1000) :
  Calls Tryz.prog 201 #[.pointer (some ⟨B,0,none⟩),.string g,.map (some b)] w fun e w'=>e=.returned (.tuple #[])∧uL w B (some m) (zP T g.data.toList (b,l)) w':=by
 have HC:Hid (∀ W,Calls Tryz.prog 153 #[.string g] W fun e w'=>e=.returned (.string g)∧Below W.heap.size W w'):=fun W=>xb g W hg
 have hq:=nilmap10 w (some m)
 have hc:=h.cell
 have HG1:=za h
 have HST:Hid (∀ W,Below w.heap.size w W→∃ w',(Instr.mapUpdate 165 (.map (some m)) (.string g) (.map (some b))).run Tryz.prog W=.ok () w'∧uL w B (some m) (zP T g.data.toList (b,l)) w'):=fun W hb=>by
  obtain ⟨w',h1,h2,h3⟩:=Xt (h.later hb) (hs.kept (hb.block b (World.ownsMap.lt hs))) hn hm hf g (Nat.le_trans hg (by decide))
  exact ⟨w',h1,some m,h2,(fun _ e=>.inl e),(zm.of_below hb _).next h3 (fun i _ e=>.inr (by rw [e]))⟩
 clear h hs hn hm hf
 go_enter Tryz.func201,Tryz.ntmps201
 go_wp2_with fail

 refine yI (by kernel_rfl) 7 (fun W=>Below w.heap.size w W) (fun W=>uL w B (some m) (zP T g.data.toList (b,l)) W) (YPut10 B m b g) (fun _=>True) ?F ?hF (by kernel_rfl) (by kernel_rfl) (by kernel_rfl) (by kernel_rfl) (by decide) (zZ (Below.refl _ _)) ?step ?fin
 case hF =>
  intro x
  simp only [List.map_cons,List.map_nil,vH,Act.put,List.setIfInBounds_toArray,List.set_cons_zero,List.set_cons_succ,Nat.zero_add,Nat.reduceAdd]
  exact rfl
 case step =>
  refine ⟨?_,?_,?_,?_,?_,?_,?_,?_,trivial⟩
  ·
   intro x W
   refine ⟨fun _ hW hdep K hK=>?_,(fun h=>absurd h (by decide)),(fun h=>absurd h (by decide))⟩
   clear hdep
   go_simp
   exact hK _ _ rfl hW (fun _ _ h=>h)
  ·
   intro x W
   refine ⟨fun _ hW hdep K hK=>?_,(fun h=>absurd h (by decide)),(fun h=>absurd h (by decide))⟩
   have h0:x 0=_:=hdep 0 rfl
   clear hdep
   simp only [h0] at hK
   go_simp
   exact hK _ _ rfl hW (fun _ _ h=>h)
  ·
   intro x W
   refine ⟨fun _ hW hdep K hK=>?_,(fun h=>absurd h (by decide)),(fun h=>absurd h (by decide))⟩
   have h1:x 1=_:=hdep 1 rfl
   clear hdep
   simp only [h1] at hK
   go_simp
   exact hK _ _ rfl hW (fun _ _ h=>h)
  ·
   intro x W
   refine ⟨fun _ hW hdep K hK=>?_,(fun h=>absurd h (by decide)),(fun h=>absurd h (by decide))⟩
   have h2:x 2=_:=hdep 2 rfl
   have c:=(HG1.out.later hW).cell
   clear hdep
   simp only [h2] at hK
   go_simp
   exact hK _ _ rfl hW (fun _ _ h=>h)
  ·
   intro x W
   refine ⟨fun _ hW hdep K hK=>?_,(fun h=>absurd h (by decide)),(fun h=>absurd h (by decide))⟩
   clear hdep
   go_simp
   exact hK _ _ rfl hW (fun _ _ h=>h)
  ·
   intro x W
   refine ⟨fun _ hW hdep K hK=>?_,(fun h=>absurd h (by decide)),(fun h=>absurd h (by decide))⟩
   have h4:x 4=_:=hdep 4 rfl
   have hc:=HC.out W
   clear hdep
   simp only [h4] at hK
   go_simp
   refine hc.mono ?_
   rintro e W' ⟨rfl,hb⟩
   exact hK _ _ rfl (z8 hW hb) (fun _ _ h=>h)
  ·
   intro x W
   refine ⟨fun _ hW hdep K hK=>?_,(fun h=>absurd h (by decide)),(fun h=>absurd h (by decide))⟩
   clear hdep
   go_simp
   exact hK _ _ rfl hW (fun _ _ h=>h)
  ·
   intro x W
   refine ⟨(fun h=>absurd h (by decide)),fun _ hW hdep K hK=>?_,(fun h=>absurd h (by decide))⟩
   have h3:x 3=_:=hdep 3 rfl
   have h5:x 5=_:=hdep 5 rfl
   have h6:x 6=_:=hdep 6 rfl
   obtain ⟨w',hrun,hg⟩:=HST.out W hW
   clear hdep
   simp only [h3,h5,h6] at hK
   go_simp
   exact hK undef _ trivial hg
 case fin =>
  intro x W hW _
  have HF:=za hW
  clear hW HG1 HST HC
  go_end0
  exact ⟨rfl,HF.out⟩

set_option maxRecDepth 100000 in
theorem put10_none (B b:Nat) (l:zQ) (g:ByteArray) (w:World) (h:zT w B none []) (hs:zW w b l) (hg:g.size≤1000) :
  Calls Tryz.prog 201 #[.pointer (some ⟨B,0,none⟩),.string g,.map (some b)] w fun e w'=>e=.returned (.tuple #[])∧uL w B none (zP [] g.data.toList (b,l)) w':=by
 have HC:Hid (∀ W,Calls Tryz.prog 153 #[.string g] W fun e w'=>e=.returned (.string g)∧Below W.heap.size W w'):=fun W=>xb g W hg
 have hq:=nilmap10 w none
 have hc:=h.cell
 have hf0:=h.frozen
 have hBl:=h.lt
 have hmm:=@run_makeMap Tryz.prog
 have hbl:b<w.heap.size:=World.ownsMap.lt hs
 have hbB:b≠B:=ye hs h.blk
 have hsz:(w.setCell ⟨B,0,none⟩ (.map (some w.heap.size))).heap.size=w.heap.size:=by simp [World.setCell]
 have hblk1:=heap_setCell_box_a (.map (some w.heap.size)) h.blk
 have hblk2:((w.setCell ⟨B,0,none⟩ (.map (some w.heap.size))).alloc (.map #[] 0)).heap[B]? = some (.cells #[.map (some w.heap.size)] 167 (0,0)):=(Below.heap_alloc _ _ B (by omega)).trans hblk1
 have hown:=World.ownsMap_made (H:=Unit) (w.setCell ⟨B,0,none⟩ (.map (some w.heap.size))) Tryz.prog 9 R10
 rw [hsz] at hown
 have ht1:zm (fun i=>i=B∨(none:Option Nat)=some i) w ((w.setCell ⟨B,0,none⟩ (.map (some w.heap.size))).alloc (.map #[] 0)):=((zm.refl _ w).setCell (p:=⟨B,0,none⟩) (fun _=>.inl rfl) _).alloc _
 have hG:zT ((w.setCell ⟨B,0,none⟩ (.map (some w.heap.size))).alloc (.map #[] 0)) B (some w.heap.size) []:=by
  refine ⟨hblk2,(fun e=>nomatch e),fun c hc=>?_,(fun _ h=>nomatch h),(fun _ h=>nomatch h),(fun _ h=>nomatch h),List.Pairwise.nil⟩
  cases hc
  exact hown
 have hs1:zW ((w.setCell ⟨B,0,none⟩ (.map (some w.heap.size))).alloc (.map #[] 0)) b l:=hs.kept (ht1.block b hbl (by rintro (e | e); exact hbB e; cases e))
 have HG1:=za hG
 have HST:Hid (∀ W,Below ((w.setCell ⟨B,0,none⟩ (.map (some w.heap.size))).alloc (.map #[] 0)).heap.size ((w.setCell ⟨B,0,none⟩ (.map (some w.heap.size))).alloc (.map #[] 0)) W→∃ w',(Instr.mapUpdate 165 (.map (some w.heap.size)) (.string g) (.map (some b))).run Tryz.prog W=.ok () w'∧uL w B none (zP [] g.data.toList (b,l)) w'):=fun W hb=>by
  obtain ⟨w',h1,h2,h3⟩:=Xt (hG.later hb) (hs1.kept (hb.block b (World.ownsMap.lt hs1))) (fun _ h=>nomatch h) (by omega) (by simp) g (Nat.le_trans hg (by decide))
  refine ⟨w',h1,some w.heap.size,h2,(fun c e=>.inr (by cases e; exact Nat.le_refl _)),(ht1.next (zm.of_below hb (fun _=>False)) (fun _ _ f=>f.elim)).next h3 (fun i hi e=>?_)⟩
  omega
 obtain ⟨hc2,hf2⟩:=cell_of_box_a hblk2
 clear h hs hs1 hG hown hblk1 hblk2 ht1 hbl hbB hsz
 go_enter Tryz.func201,Tryz.ntmps201
 go_wp2_with fail
 generalize (w.setCell ⟨B,0,none⟩ (.map (some w.heap.size))).alloc (.map #[] 0)=w1 at *

 refine yI (by kernel_rfl) 7 (fun W=>Below w1.heap.size w1 W) (fun W=>uL w B none (zP [] g.data.toList (b,l)) W) (YPut10 B w.heap.size b g) (fun _=>True) ?F ?hF (by kernel_rfl) (by kernel_rfl) (by kernel_rfl) (by kernel_rfl) (by decide) (zZ (Below.refl _ _)) ?step ?fin
 case hF =>
  intro x
  simp only [List.map_cons,List.map_nil,vH,Act.put,List.setIfInBounds_toArray,List.set_cons_zero,List.set_cons_succ,Nat.zero_add,Nat.reduceAdd]
  exact rfl
 case step =>
  refine ⟨?_,?_,?_,?_,?_,?_,?_,?_,trivial⟩
  ·
   intro x W
   refine ⟨fun _ hW hdep K hK=>?_,(fun h=>absurd h (by decide)),(fun h=>absurd h (by decide))⟩
   clear hdep
   go_simp
   exact hK _ _ rfl hW (fun _ _ h=>h)
  ·
   intro x W
   refine ⟨fun _ hW hdep K hK=>?_,(fun h=>absurd h (by decide)),(fun h=>absurd h (by decide))⟩
   have h0:x 0=_:=hdep 0 rfl
   clear hdep
   simp only [h0] at hK
   go_simp
   exact hK _ _ rfl hW (fun _ _ h=>h)
  ·
   intro x W
   refine ⟨fun _ hW hdep K hK=>?_,(fun h=>absurd h (by decide)),(fun h=>absurd h (by decide))⟩
   have h1:x 1=_:=hdep 1 rfl
   clear hdep
   simp only [h1] at hK
   go_simp
   exact hK _ _ rfl hW (fun _ _ h=>h)
  ·
   intro x W
   refine ⟨fun _ hW hdep K hK=>?_,(fun h=>absurd h (by decide)),(fun h=>absurd h (by decide))⟩
   have h2:x 2=_:=hdep 2 rfl
   have c:=(HG1.out.later hW).cell
   clear hdep
   simp only [h2] at hK
   go_simp
   exact hK _ _ rfl hW (fun _ _ h=>h)
  ·
   intro x W
   refine ⟨fun _ hW hdep K hK=>?_,(fun h=>absurd h (by decide)),(fun h=>absurd h (by decide))⟩
   clear hdep
   go_simp
   exact hK _ _ rfl hW (fun _ _ h=>h)
  ·
   intro x W
   refine ⟨fun _ hW hdep K hK=>?_,(fun h=>absurd h (by decide)),(fun h=>absurd h (by decide))⟩
   have h4:x 4=_:=hdep 4 rfl
   have hc:=HC.out W
   clear hdep
   simp only [h4] at hK
   go_simp
   refine hc.mono ?_
   rintro e W' ⟨rfl,hb⟩
   exact hK _ _ rfl (z8 hW hb) (fun _ _ h=>h)
  ·
   intro x W
   refine ⟨fun _ hW hdep K hK=>?_,(fun h=>absurd h (by decide)),(fun h=>absurd h (by decide))⟩
   clear hdep
   go_simp
   exact hK _ _ rfl hW (fun _ _ h=>h)
  ·
   intro x W
   refine ⟨(fun h=>absurd h (by decide)),fun _ hW hdep K hK=>?_,(fun h=>absurd h (by decide))⟩
   have h3:x 3=_:=hdep 3 rfl
   have h5:x 5=_:=hdep 5 rfl
   have h6:x 6=_:=hdep 6 rfl
   obtain ⟨w',hrun,hg⟩:=HST.out W hW
   clear hdep
   simp only [h3,h5,h6] at hK
   go_simp
   exact hK undef _ trivial hg
 case fin =>
  intro x W hW _
  have HF:=za hW
  clear hW HG1 HST HC
  go_end0
  exact ⟨rfl,HF.out⟩

theorem YZ (B b:Nat) (p:Option Nat) (T:zF) (l:zQ) (g:ByteArray) (w:World) (h:zT w B p T) (hs:zW w b l) (hn:∀ x∈T,x.2.1≠b) (hm:p≠some b) (hf:T.length≤1000) (hg:g.size≤1000) :
  Calls Tryz.prog 201 #[.pointer (some ⟨B,0,none⟩),.string g,.map (some b)] w fun e w'=>e=.returned (.tuple #[])∧uL w B p (zP T g.data.toList (b,l)) w':=by
 cases p with
 | none =>
  have:=h.nil rfl
  subst this
  exact put10_none B b l g w h hs hg
 | some m=>exact put10_some B m b T l g w h hs hn (fun e=>hm (by rw [e])) hf hg

set_option maxRecDepth 100000 in
theorem Fx (B:Nat) (p:Option Nat) (T:zF) (g:ByteArray) (w:World) (h:zT w B p T) (hg:g.size≤9223372036854775807) :
  Calls Tryz.prog 226 #[.pointer (some ⟨B,0,none⟩),.string g,.slice none 0 0] w fun e w'=>e=.returned (.tuple #[.map (if yF (zj T) g.data.toList []=0 then qi T g.data.toList else none),.int .i64 (yF (zj T) g.data.toList [])])∧Below w.heap.size w w':=by
 have HI:=za h
 have hb0:Below w.heap.size w (w.alloc (.cells #[.string g] 9)):=z7 (Below.refl _ _) _
 have HN:=za (ud w.heap.size g _ hg (show (w.alloc (.cells #[.string g] 9)).cell? ⟨w.heap.size,0,none⟩=some (.string g) by rw [World.cell?_alloc_at _ _ _ _ rfl]; rfl))
 have HB0:=za hb0
 have HLK:Hid (∀ W,Below w.heap.size w W→(Instr.lookup 165 (.map p) (.string g) true).run Tryz.prog W=.ok (.tuple #[.map (qi T g.data.toList),.bool (zx T g.data.toList)]) W):=fun W hb=>look10 (h.later hb) g (Nat.le_trans hg (by decide))
 unfold yF
 rw [vI]
 have hbn:zx T g.data.toList=false→qi T g.data.toList=none:=VX
 clear hb0 h
 generalize qi T g.data.toList=o at *
 generalize zx T g.data.toList=b at *
 generalize zf g.data.toList=a at *
 cases a with
 | false =>
  show Calls _ _ _ _ fun e w'=>e=.returned (.tuple #[.map none,.int .i64 10])∧Below w.heap.size w w'
  go_enter Tryz.func226,Tryz.ntmps226
  go_wp2_with fail
  with_reducible refine HN.out.mono ?_
  rintro e w1 ⟨rfl,hb⟩
  have HB:=za (z8 HB0.out hb)
  clear hb HN
  go_wp2
  go_ret2
  exact ⟨rfl,HB.out⟩
 | true =>
  cases b with
  | false =>
   rw [hbn rfl]
   show Calls _ _ _ _ fun e w'=>e=.returned (.tuple #[.map none,.int .i64 8])∧Below w.heap.size w w'
   go_enter Tryz.func226,Tryz.ntmps226
   go_wp2_with fail
   with_reducible refine HN.out.mono ?_
   rintro e w1 ⟨rfl,hb⟩
   have hb1:=z8 HB0.out hb
   have HB1:=za hb1
   have HM1:=za (Za w1)
   clear hb hb1
   go_wp2_with fail
   with_reducible refine HM1.out.mono ?_
   rintro e w2 ⟨rfl,rfl⟩
   have HB2:=HB1
   clear HM1
   have c2:=(HI.out.later HB2.out).cell
   have l2:=HLK.out _ HB2.out
   clear HN HLK HI
   go_wp2
   go_ret2
   exact ⟨rfl,HB2.out⟩
  | true =>
   show Calls _ _ _ _ fun e w'=>e=.returned (.tuple #[.map o,.int .i64 0])∧Below w.heap.size w w'
   go_enter Tryz.func226,Tryz.ntmps226
   go_wp2_with fail
   with_reducible refine HN.out.mono ?_
   rintro e w1 ⟨rfl,hb⟩
   have hb1:=z8 HB0.out hb
   have HB1:=za hb1
   have HM1:=za (Za w1)
   clear hb hb1
   go_wp2_with fail
   with_reducible refine HM1.out.mono ?_
   rintro e w2 ⟨rfl,rfl⟩
   have HB2:=HB1
   clear HM1
   have c2:=(HI.out.later HB2.out).cell
   have l2:=HLK.out _ HB2.out
   clear HN HLK HI
   go_wp2
   go_ret2
   exact ⟨rfl,HB2.out⟩

set_option maxRecDepth 100000 in
theorem VS (B:Nat) (p:Option Nat) (T:zF) (g:ByteArray) (A:Nat) (n:ByteArray) (w:World) (h:zT w B p T) (hg:g.size≤9223372036854775807) (hn:n.size≤9223372036854775807) (hA:w.cell? ⟨A,0,none⟩=some (.string n)) :
  Calls Tryz.prog 226 #[.pointer (some ⟨B,0,none⟩),.string g,.slice (some ⟨A,0,none⟩) 1 1] w fun e w'=>e=.returned (.tuple #[.map (if yF (zj T) g.data.toList [n.data.toList]=0 then qi T g.data.toList else none),.int .i64 (yF (zj T) g.data.toList [n.data.toList])])∧Below w.heap.size w w':=by
 have HI:=za h
 have hb0:Below w.heap.size w (w.alloc (.cells #[.string g] 9)):=z7 (Below.refl _ _) _
 have HN:=za (ud w.heap.size g _ hg (show (w.alloc (.cells #[.string g] 9)).cell? ⟨w.heap.size,0,none⟩=some (.string g) by rw [World.cell?_alloc_at _ _ _ _ rfl]; rfl))
 have HB0:=za hb0
 have HLK:Hid (∀ W,Below w.heap.size w W→(Instr.lookup 165 (.map p) (.string g) true).run Tryz.prog W=.ok (.tuple #[.map (qi T g.data.toList),.bool (zx T g.data.toList)]) W):=fun W hb=>look10 (h.later hb) g (Nat.le_trans hg (by decide))
 unfold yF
 rw [vI]
 have hbn:zx T g.data.toList=false→qi T g.data.toList=none:=VX
 have lA:A<w.heap.size:=World.block_lt_of_cell? w _ hA
 have HM:Hid (∀ W,Below w.heap.size w W→Calls Tryz.prog 200 #[.slice (some ⟨A,0,none⟩) 1 1] W (zY (zf n.data.toList) W)):=fun W hb=>ud A n W hn ((hb.cell (p:=⟨A,0,none⟩) lA).trans hA)
 clear hA lA
 simp only [List.all_cons,List.all_nil,Bool.and_true]
 generalize zf n.data.toList=d at *
 clear hb0 h
 generalize qi T g.data.toList=o at *
 generalize zx T g.data.toList=b at *
 generalize zf g.data.toList=a at *
 cases a with
 | false =>
  show Calls _ _ _ _ fun e w'=>e=.returned (.tuple #[.map none,.int .i64 10])∧Below w.heap.size w w'
  go_enter Tryz.func226,Tryz.ntmps226
  go_wp2_with fail
  with_reducible refine HN.out.mono ?_
  rintro e w1 ⟨rfl,hb⟩
  have HB:=za (z8 HB0.out hb)
  clear hb HN
  go_wp2
  go_ret2
  exact ⟨rfl,HB.out⟩
 | true =>
  cases d with
  | false =>
   show Calls _ _ _ _ fun e w'=>e=.returned (.tuple #[.map none,.int .i64 10])∧Below w.heap.size w w'
   go_enter Tryz.func226,Tryz.ntmps226
   go_wp2_with fail
   with_reducible refine HN.out.mono ?_
   rintro e w1 ⟨rfl,hb⟩
   have hb1:=z8 HB0.out hb
   have HB1:=za hb1
   have HM1:=za (HM.out w1 hb1)
   clear hb hb1
   go_wp2_with fail
   with_reducible refine HM1.out.mono ?_
   rintro e w2 ⟨rfl,hb⟩
   have HB2:=za (z8 HB1.out hb)
   clear hb HM1 HM
   go_wp2
   go_ret2
   exact ⟨rfl,HB2.out⟩
  | true =>
   cases b with
   | false =>
    rw [hbn rfl]
    show Calls _ _ _ _ fun e w'=>e=.returned (.tuple #[.map none,.int .i64 8])∧Below w.heap.size w w'
    go_enter Tryz.func226,Tryz.ntmps226
    go_wp2_with fail
    with_reducible refine HN.out.mono ?_
    rintro e w1 ⟨rfl,hb⟩
    have hb1:=z8 HB0.out hb
    have HB1:=za hb1
    have HM1:=za (HM.out w1 hb1)
    clear hb hb1
    go_wp2_with fail
    with_reducible refine HM1.out.mono ?_
    rintro e w2 ⟨rfl,hb⟩
    have HB2:=za (z8 HB1.out hb)
    clear hb HM1 HM
    have c2:=(HI.out.later HB2.out).cell
    have l2:=HLK.out _ HB2.out
    clear HN HLK HI
    go_wp2
    go_ret2
    exact ⟨rfl,HB2.out⟩
   | true =>
    show Calls _ _ _ _ fun e w'=>e=.returned (.tuple #[.map o,.int .i64 0])∧Below w.heap.size w w'
    go_enter Tryz.func226,Tryz.ntmps226
    go_wp2_with fail
    with_reducible refine HN.out.mono ?_
    rintro e w1 ⟨rfl,hb⟩
    have hb1:=z8 HB0.out hb
    have HB1:=za hb1
    have HM1:=za (HM.out w1 hb1)
    clear hb hb1
    go_wp2_with fail
    with_reducible refine HM1.out.mono ?_
    rintro e w2 ⟨rfl,hb⟩
    have HB2:=za (z8 HB1.out hb)
    clear hb HM1 HM
    have c2:=(HI.out.later HB2.out).cell
    have l2:=HLK.out _ HB2.out
    clear HN HLK HI
    go_wp2
    go_ret2
    exact ⟨rfl,HB2.out⟩
end Go.Proofs.YthmomkjingcbiaaGreatDoor
namespace Go.Proofs.YthmomkjingcbiaaGreatDoor
open Go.RowKit Go.Maps Go.Sort Go.Shelf

theorem lt10 (x y:List UInt8):ltOf Lib.compareBytes x y=bytesBefore x y:=ux x y
theorem swo10:SWO (ltOf Lib.compareBytes) where
 irrefl x:=by rw [lt10]; exact zD x
 trans x y z h1 h2:=by rw [lt10] at *; exact WideShapes.bytes_trans _ _ _ h1 h2
 ntrans x y z h1 h2:=by
  rw [lt10] at *
  cases h:bytesBefore x z
  ·
   rfl
  ·
   by_cases e:x=y
   ·
    subst e; rw [h] at h2; cases h2
   ·
    rcases WideAt.bytes_total x y e with h' | h'
    ·
     rw [h'] at h1; cases h1
    ·
     rw [WideShapes.bytes_trans _ _ _ h' h] at h2; cases h2
theorem tot10 (x y:List UInt8) (h1:ltOf Lib.compareBytes x y=false) (h2:ltOf Lib.compareBytes y x=false):x=y:=by
 rw [lt10] at *
 by_cases e:x=y
 ·
  exact e
 ·
  rcases WideAt.bytes_total x y e with h' | h'
  ·
   rw [h'] at h1; cases h1
  ·
   rw [h'] at h2; cases h2
set_option maxRecDepth 100000 in
theorem XI (a b:ByteArray) (w:World) :
  Calls Tryz.prog 138 #[.string a,.string b] w fun e w'=>e=.returned (.int .i64 (Lib.compareBytes a.data.toList b.data.toList))∧w'=w:=by
 have HC:=za (Tryz.strings_Compare a b w)
 generalize Lib.compareBytes a.data.toList b.data.toList=r at *
 go_enter Tryz.func138,Tryz.ntmps138
 go_wp2_with fail
 with_reducible refine HC.out.mono ?_
 rintro e w1 ⟨rfl,rfl⟩
 go_wp2
 go_ret
 exact ⟨rfl,rfl⟩
theorem cmp10 (blk off size:Nat) (w:World):CmpLays1 Tryz.prog 138 #[] encStr Lib.compareBytes blk off size w :=
 CmpReads.lays fun _ _ _ _ x y=>(XI ⟨x.toArray⟩ ⟨y.toArray⟩ _).mono fun e w' ⟨he,hw⟩=>⟨by rw [he],0,hw⟩
theorem Qj (blk cap:Nat) (ss ls:List (List UInt8)) (W:World) (hr:ut ls) (hp:ss.Perm ls) (hH:Holds encStr W blk 0 ss.toArray) (hb:blk<W.heap.size) (hl:ss.length<4611686018427387904) :
  Calls Tryz.prog 210 #[.slice (some ⟨blk,0,none⟩) ss.length cap,.func (.func 138) #[] #[]] W fun e w'=>e=.returned (.tuple #[])∧∃ n os,w'=grow (putRow encStr (Sort.ahead W n) blk 0 ls.toArray) os:=by
 have:=Tryz.slices_SortFunc_total encStr (fun _=>rfl) Lib.compareBytes swo10 138 #[] blk 0 cap ss.toArray W (enters_of Tryz.func138 (by kernel_rfl) rfl) (cmp10 blk 0 _ W) hH hb (by simpa using hl) tot10
 rw [← Qh hr hp (fun x y=>!(ltOf Lib.compareBytes) y x) (fun x y=>by rw [lt10])]
 simpa [sortWorld] using this
theorem YM (cap:Nat) (W:World):Calls Tryz.prog 210 #[.slice none 0 cap,.func (.func 138) #[] #[]] W fun e w'=>e=.returned (.tuple #[])∧w'=W :=
 Tryz.slices_SortFunc_none (α:=List UInt8) none cap _ W

def qY {V:Type} (T:zL V) (q:List UInt8×V→Bool) (left:Lit→Bool) (ss:List (List UInt8)):Prop:=ss.Nodup∧∀ x,x∈ss↔∃ p∈T,p.1=x∧q p=true∧left (.string x)=false
section
variable {V:Type} {T:zL V} {q:List UInt8×V→Bool} {left:Lit→Bool} {ss:List (List UInt8)}
theorem qY.start (e:V→DataW Unit):qY T q (Maps.has (uq e T)) []:=⟨List.nodup_nil,fun x=>by
 constructor
 ·
  intro h; cases h
 ·
  rintro ⟨p,hp,rfl,_,h⟩
  rw [Z7,xT.2 ⟨p,hp,rfl⟩] at h
  cases h⟩
theorem Jo {e:V→DataW Unit} (hr:zA T) {x:List UInt8} {y:DataW Unit} (hat:∀ zd,(uq e T).atKey (.string x) zd=y):∃ p∈T,p.1=x∧e p.2=y:=by
 have h1:Maps.has (uq e T) (.string x)=true:=has_true_of_atKey hat
 rw [Z7] at h1
 obtain ⟨v,hv⟩:=qT h1
 have h2:=hat .nil
 rw [Yx _ hv] at h2
 exact ⟨(x,v),(zH hr).1 hv,rfl,h2⟩
theorem qY.hit (h:qY T q left ss) {p:List UInt8×V} (hp:p∈T) (hq:q p=true) (hlk:left (.string p.1)=true):qY T q (fun z=>left z && !z.sameKey (.string p.1)) (ss++[p.1]):=by
 have hnew:p.1∉ss:=fun hx=>by obtain ⟨_,_,_,_,h'⟩:=(h.2 _).1 hx; rw [hlk] at h'; cases h'
 refine ⟨List.nodup_append.2 ⟨h.1,by simp,fun a ha b hb=>by simp at hb; subst hb; exact fun e=>hnew (e ▸ ha)⟩,fun y=>?_⟩
 by_cases hy:y=p.1
 ·
  subst hy
  constructor
  ·
   intro _; exact ⟨p,hp,rfl,hq,by simp [Lit.sameKey]⟩
  ·
   intro _; simp
 ·
  simp [h.2 y,hy,Lit.sameKey]
theorem qY.miss (hr:zA T) (h:qY T q left ss) {p:List UInt8×V} (hp:p∈T) (hq:q p=false):qY T q (fun z=>left z && !z.sameKey (.string p.1)) ss:=by
 refine ⟨h.1,fun y=>?_⟩
 rw [h.2 y]
 refine exists_congr fun p'=>and_congr_right fun hp'=>and_congr_right fun e=>and_congr_right fun hq'=>?_
 have:y≠p.1:=fun ey=>by
  have:=YT hr hp' hp (e.trans ey)
  rw [this,hq] at hq'
  cases hq'
 simp [Lit.sameKey,this]
theorem qY.perm (hr:zA T) (h:qY T q left ss) (hl:∀ kl,left kl=false):ss.Perm (zb (T.filter q)):=by
 refine (List.perm_ext_iff_of_nodup h.1 ?_).2 fun x=>?_
 ·
  have h1:ut (zb (T.filter q)):=zA.names (hr.filter _)
  exact h1.imp fun {a b} hab e=>by subst e; rw [zD] at hab; cases hab
 ·
  rw [h.2 x]
  unfold zb
  simp only [List.mem_map,List.mem_filter,hl]
  constructor
  ·
   rintro ⟨p,hp,rfl,hq,_⟩; exact ⟨p,⟨hp,hq⟩,rfl⟩
  ·
   rintro ⟨p,⟨hp,hq⟩,rfl⟩; exact ⟨p,hp,rfl,hq,trivial⟩
end
theorem qe {w w':World} {P:Program} {k:TypeId} {R:Value→Option (DataW Unit×List MemPlace)} {b r n:Nat} {D:DataW Unit} {left:Lit→Bool} {cnt:Nat} (h:w.ranges P k R b r n D left cnt) (hb:Below w.heap.size w w'):w'.ranges P k R b r n D left cnt:=by
 have h1:=h.owns.lt
 have h2:=h.lt
 obtain ⟨es,clock,since,seen,c0,hb',F,hs,hD,hr,rest⟩:=h
 exact ⟨es,clock,since,seen,c0,(hb.block b h1).trans hb',F,hs,hD,(hb.block r h2).trans hr,rest⟩
theorem jq:(Tryz.prog.info? 9).map (fun i=>(i.zero,i.size,i.bytes))=some (some (.string ⟨#[]⟩),1,16):=by kernel_rfl


def yr (ls:List (List UInt8)) (w:World) (e:Ending) (w':World):Prop :=
 ∃ v,e=.returned v∧w'.ownsRow w.heap.size 9 1 v ls.length (ls.map encStr)∧Below w.heap.size w w'
theorem zC {w:World} {a b:Nat} {e size n:Nat} {v:Value} {xs:List Value} (h:w.ownsRow b e size v n xs) (hab:a≤b):w.ownsRow a e size v n xs:=by
 refine ⟨h.1,?_⟩
 rcases h.2 with hn | ⟨g,cap,cur,e1,h0,hg,hr⟩
 ·
  exact .inl hn
 ·
  exact .inr ⟨g,cap,cur,e1,Nat.le_trans hab h0,hg,hr⟩
theorem xt {w w':World} {b:Nat} {e size n:Nat} {v:Value} {xs:List Value} (h:w.ownsRow b e size v n xs) (hb:Below w.heap.size w w'):w'.ownsRow b e size v n xs:=by
 refine ⟨h.1,?_⟩
 rcases h.2 with hn | ⟨g,cap,cur,e1,h0,hg,hr⟩
 ·
  exact .inl hn
 ·
  exact .inr ⟨g,cap,cur,e1,h0,(hb.block g (Array.getElem?_eq_some_iff.1 hg).1).trans hg,hr⟩

set_option maxRecDepth 100000 in
theorem fO (b:Nat) (T:zL (Nat×zQ)) (q:List UInt8×(Nat×zQ)→Bool) (av:Value) (w:World) (hr:zA T) (hf:T.length≤1000) (hown:w.ownsMap Tryz.prog 9 (R10) b T.length (uq Ve T))
  (hev:∀ W,Below w.heap.size w W→∀ x∈T,Calls Tryz.prog 246 #[.map (some x.2.1),av] W (zY (q x) W)) :
  Calls Tryz.prog 204 #[.map (some b),av] w (yr (zb (T.filter q)) w):=by
 obtain ⟨i0,hi,hz0,hz1,hz2⟩:=info_parts jq
 have hbl:=hown.lt
 have HEV:=za hev
 have HR:=za hr
 clear hev hr
 have hsz:Maps.size (uq Ve T)=T.length:=vz Ve T
 have HSRT:Hid (∀ blk cap (ss ls:List (List UInt8)) (W:World),ut ls→ss.Perm ls→Holds encStr W blk 0 ss.toArray→blk<W.heap.size→ss.length<4611686018427387904→Calls Tryz.prog 210 #[.slice (some ⟨blk,0,none⟩) ss.length cap,.func (.func 138) #[] #[]] W fun e w'=>e=.returned (.tuple #[])∧∃ n os,w'=grow (putRow encStr (Sort.ahead W n) blk 0 ls.toArray) os):=Qj
 have HSRT0:Hid (∀ cap W,Calls Tryz.prog 210 #[.slice none 0 cap,.func (.func 138) #[] #[]] W fun e w'=>e=.returned (.tuple #[])∧w'=W):=YM
 go_enter Tryz.func204,Tryz.ntmps204
 go_wp2_with (first
  | (at_range; refine wpList_range_own _ rfl _ 165 rfl 9 208 xI Tryz.underlying165 _ b _ _ rfl hown ?_; intro w0 hrg0 hg0 hs0)
  | go_in)
 go_frame
 rw [hsz] at hrg0
 have hs1:w0.heap.size=w.heap.size+1:=hs0
 obtain ⟨len,hlen⟩:∃ len,len=T.length:=⟨_,rfl⟩
 rw [← hlen] at hrg0 hf
 have HLN:=za hlen
 clear hs0 hown hlen hsz
 go_loopw [5] (fun v wr=>∃ (left:Lit→Bool) (cnt:Nat) (ss:List (List UInt8)),Hid (wr.ranges Tryz.prog 9 (R10) b w.heap.size len (uq Ve T) left cnt)∧ss.length+cnt≤len ∧
   Hid (wr.ownsRow w.heap.size 9 1 v ss.length (ss.map encStr))∧Hid (qY T q left ss)∧Hid (Below w.heap.size w wr))
  (fun _ wr=>wr.rangeLeft b w.heap.size)
 case atStart =>
  exact ⟨_,_,[],hrg0,by simp,World.ownsRow_nil _ _ _ _,qY.start Ve,(Below.refl _ _).grown hg0 (Nat.le_refl _) (fun j hj=>by cases hj)⟩
 case round =>
  obtain ⟨left,cnt,ss,HRG,hcs,HROW,HC,HNX⟩:=hrel
  have hrg:=HRG.out
  go_wp2_with (first
   | (at_next; refine wpList_next_ranges _ rfl _ rfl 9 xI (R10) encStr Value.map (fun key kl hk=>by obtain ⟨x,hx,_⟩:=Maps.keyOf_str Tryz.underlying9 hk; exact ⟨x,hx⟩) (fun v y hv=>by obtain ⟨c,rfl,_⟩:=Zr hv; exact ⟨c,rfl⟩) b w.heap.size len _ _ _ rfl hrg ?_ ?_)
   | go_in)
  ·
   intro hc0 hl0
   have hp:=HC.out.perm HR.out hl0
   have hrt:ut (zb (T.filter q)):=zA.names (HR.out.filter _)
   have hpl:=hp.length_eq
   have hrow:=HROW.out
   rcases hrow.2 with ⟨hnil,hz⟩ | ⟨g,cap,cur,rfl,hbase,hgb,r1,r2,r3,r4⟩
   ·
    subst hnil
    have hss:ss=[]:=List.eq_nil_of_length_eq_zero hz
    subst hss
    have hne:zb (T.filter q)=[]:=List.eq_nil_of_length_eq_zero hpl.symm
    have HF:Hid (yr (zb (T.filter q)) w (.returned (.slice none 0 0)) wr):=by
     rw [hne]
     exact ⟨_,rfl,World.ownsRow_nil _ _ _ _,HNX.out⟩
    clear hrow hz hne hpl hrt hp hrg hl0
    go_wp2_with (go_at_call 210; (with_reducible refine (HSRT0.out _ _).mono ?_); rintro e w' ⟨rfl,rfl⟩)
    go_ret
    exact HF.out
   ·
    have hH:Holds encStr wr g 0 ss.toArray:=holds_of_block hgb (by simpa using r4)
    have hgl:g<wr.heap.size:=(Array.getElem?_eq_some_iff.1 hgb).1
    have cS:=za (HSRT.out g cap ss _ wr hrt hp hH hgl (by omega))
    have HF:Hid (∀ n os,yr (zb (T.filter q)) w (.returned (.slice (some ⟨g,0,none⟩) ss.length cap)) (grow (putRow encStr (Sort.ahead wr n) g 0 (zb (T.filter q)).toArray) os)):=fun n os=>by
     refine ⟨_,rfl,?_,HNX.out.grown (grownBy_sorted _) HNX.out.size (fun j hj=>by cases hj; exact hbase)⟩
     have:=ownsRow_sorted (ts:=zb (T.filter q)) (n:=n) (os:=os) hpl.symm hbase hgb r1 r2 r3
     rw [← hpl]; exact this
    clear hrow hbase hgb r1 r2 r3 r4 hH hgl hpl hp hrt hrg hl0
    generalize ss.length=n at *
    go_wp2_with (go_at_call 210; (with_reducible refine cS.out.mono ?_); rintro e w' ⟨rfl,nn,os,rfl⟩)
    go_ret
    exact HF.out nn os
  ·
   intro x c kl yd yp w2 cnt2 hkey hlk hv hat hrg2 hlt hg2 hs2 hen
   obtain ⟨x',ex,rfl,_⟩:=Maps.keyOf_str Tryz.underlying9 hkey
   obtain rfl:x=x':=encStr_inj ex
   obtain ⟨p,hpT,rfl,hpe⟩:=Jo HR.out hat
   obtain rfl:(some p.2.1)=c:=by
    obtain ⟨o,ho,hz⟩:=Zr hv
    have e1:c=o:=by injection ho
    have e2:ob10 (some p.2.1)=ob10 o:=hpe.trans hz
    rw [e1]; exact Yq e2
   have hnx2:Below w.heap.size w w2:=HNX.out.grown hg2 HNX.out.size (fun j hj=>by cases hj; exact Nat.le_refl _)
   have hrow2:=HROW.out.kept hg2 (Or.inr (row_ne_iter HROW.out hrg).symm)
   have HEV2:=za (HEV.out w2 hnx2 p hpT)
   have HNX2:=za hnx2
   have HROW2:=za hrow2
   have HRG2:=za hrg2
   have hkz:(fun l:List UInt8=>(Value.string ⟨l.toArray⟩)) p.1=encStr p.1:=rfl
   have HLT:Hid (cnt2<wr.rangeLeft b w.heap.size):=by rw [show wr.rangeLeft b w.heap.size=cnt from hrg.left_eq]; exact hlt
   have HPT:=za hpT
   have HLK:=za hlk
   clear hs2 hnx2 hrow2 hrg2 hkz hpT hat hv hpe hkey hg2 HROW HRG hrg HNX HEV hlk
   have hlt2:ss.length+cnt2+1≤len:=by omega
   have hkv:encStr p.1=.string (zI p.1):=rfl
   have HKV:=za hkv
   rw [hkv] at hen ⊢
   clear hkv
   cases hq:q p with
   | true =>
    rw [hq] at HEV2
    have HC2:=za (HC.out.hit HPT.out hq HLK.out)
    clear HC hq HLK
    generalize zI p.1=kv at *
    go_wp2_with (first
     | (go_at_call 246; (with_reducible refine HEV2.out.mono ?_); rintro e w3 ⟨rfl,hb3⟩; have HROW3:=za (xt HROW2.out hb3); have HRG3:=za (qe HRG2.out hb3); have HNX3:=za (z8 HNX2.out hb3); clear hb3)
     | (at_builtin; refine wpList_append_own _ rfl _ _ 45 rfl w.heap.size 9 i0 (.string ⟨#[]⟩) 1 16 Tryz.underlying45 hi hz0 hz1 hz2 rfl (by decide) _ _ _ rfl (HROW3.out.alloc _) ⟨w3.heap.size,0,none⟩ 1 1 [.string kv] rfl rfl (cell_one_new _ _ _) (by simp [Value.oneCell']) (by unfold maxLen at *; omega) (by omega) (by have:=HNX3.out.size; simp; omega) ?_; intro v' w4 hown' hg4 hnil4; have HOW:=za hown'; have HG4:=za hg4; clear hown' hg4 hnil4; go_frame)
     | go_in)
    have HRG4:=za ((HRG3.out.alloc _).kept HG4.out (row_ne_low HROW3.out hbl) (row_ne_iter HROW3.out HRG3.out))
    have ho:=HOW.out
    rw [← HKV.out] at ho
    have HB4:=za ((z8 HNX3.out (z7 (Below.refl _ _) _)).grown HG4.out (by have:=HNX3.out.size; simp; omega) (fun j hj=>(HROW3.out.lt j hj).1))
    have HO4:Hid (w4.ownsRow w.heap.size 9 1 v' (ss++[p.1]).length ((ss++[p.1]).map encStr)):=by
     show w4.ownsRow _ _ _ _ _ _
     simpa using ho
    clear ho
    go_roundw
    case rel=>exact ⟨_,cnt2,ss++[p.1],HRG4,by simp; omega,HO4,HC2,HB4⟩
    case measure=>rw [HRG4.out.left_eq]; exact HLT.out
   | false =>
    rw [hq] at HEV2
    have HC2:=za (HC.out.miss HR.out HPT.out hq)
    clear HC hq HLK
    generalize zI p.1=kv at *
    go_wp2_with (first
     | (go_at_call 246; (with_reducible refine HEV2.out.mono ?_); rintro e w3 ⟨rfl,hb3⟩; have HROW3:=za (xt HROW2.out hb3); have HRG3:=za (qe HRG2.out hb3); have HNX3:=za (z8 HNX2.out hb3); clear hb3)
     | go_in)
    go_roundw
    case rel=>exact ⟨_,cnt2,ss,HRG3,by omega,HROW3,HC2,HNX3⟩
    case measure=>rw [HRG3.out.left_eq]; exact HLT.out

set_option maxRecDepth 100000 in
theorem YR (av:Value) (w:World):Calls Tryz.prog 204 #[.map none,av] w (yr [] w):=by
 have hrg:=run_range_nilMap (P:=Tryz.prog) w 165 9 208 Tryz.underlying165
 have hnx:∀ ty,(Instr.next (.pointer (some ⟨w.heap.size,0,none⟩)) false ty).run Tryz.prog (w.alloc (.mapIter none 0 #[] 0))=_:=fun ty=>run_next_nilMap _ ty 0 0 #[]
 have HSRT0:Hid (∀ cap W,Calls Tryz.prog 210 #[.slice none 0 cap,.func (.func 138) #[] #[]] W fun e w'=>e=.returned (.tuple #[])∧w'=W):=YM
 have HB:=za (z7 (Below.refl w.heap.size w) (.mapIter none 0 #[] 0))
 go_enter Tryz.func204,Tryz.ntmps204
 go_wp2
 refine wp_loop_rounds 1 ?_
 rw [rounds_succ]
 go_wp2_with (go_at_call 210; (with_reducible refine (HSRT0.out _ _).mono ?_); rintro e w' ⟨rfl,rfl⟩)
 go_ret
 exact ⟨_,rfl,World.ownsRow_nil _ _ _ _,HB.out⟩

end Go.Proofs.YthmomkjingcbiaaGreatDoor
namespace Go.Proofs.YthmomkjingcbiaaGreatDoor
open Go.RowKit Go.Maps

theorem qt {n:List UInt8} (h:zf n=true):n.length≤12:=by
 unfold zf X0 at h
 simp only [Bool.and_eq_true,decide_eq_true_eq] at h
 exact h.1.1.2.1
theorem uH {s:ByteArray} (h:zf s.data.toList=true):s.size≤1000:=by
 have:=qt h
 rw [zq] at this
 omega

theorem uL.goes {w w2 w':World} {B b:Nat} {p:Option Nat} {T:zF} {k:List UInt8} {l:zQ} (h:uL w2 B p (zP T k (b,l)) w') (hb:Below w.heap.size w w2) (hbn:w.heap.size≤b):zU w B p T (zP (zj T) k l) w':=by
 obtain ⟨p',hd,hp,ht⟩:=h
 refine ⟨p',_,hd,X1 T k (b,l),fun c e=>(hp c e).imp id (fun h=>Nat.le_trans hb.size h),fun x hx=>?_,(zm.of_below hb _).next ht (fun i _ h=>h.elim .inl (fun h=>.inr (.inl h)))⟩
 rcases yD.1 hx with rfl | ⟨hx,_⟩
 ·
  exact .inr hbn
 ·
  exact .inl ⟨x,hx,rfl⟩
theorem gdrop10 {w:World} {B:Nat} {p:Option Nat} {T:zF} (h:zT w B p T) (s:ByteArray) (hs:s.size≤maxLen) (ty:TypeId) :
  ∃ w',(Builtin.delete_ #[165,9] ty #[.map p,.string s]).run Tryz.prog w=.ok (.tuple #[]) w'∧zU w B p T (yu (zj T) s.data.toList) w':=by
 cases p with
 | none =>
  have hL:=h.nil rfl
  subst hL
  exact ⟨w,Maps.drop_nil xI Tryz.underlying165 (fZ s hs) ty,zU.still h (Below.refl _ _)⟩
 | some m =>
  obtain ⟨w',hrun,hown,ht⟩:=(h.map m rfl).drop xI Tryz.underlying165 (fZ s hs) ty
  rw [UV] at hown
  have htn:zm (fun i=>i=m) w w':=(zm.refl _ w).grown ht.grown (fun k hk _=>by cases hk; rfl)
  refine ⟨w',hrun,some m,yu T s.data.toList,⟨(htn.block B h.lt (fun e=>h.mne m rfl e.symm)).trans h.blk,(fun e=>nomatch e),fun c hc=>?_,fun x hx=>?_,fun x hx y hy=>h.one x (yn.1 hx).1 y (yn.1 hy).1,fun x hx=>h.off x (yn.1 hx).1,yj h.rise _⟩,Ff T _,(fun _ e=>.inl e),fun x hx=>.inl ⟨x,(yn.1 hx).1,rfl⟩,((zm.refl _ w).next htn fun i _ e=>.inr (.inl (by rw [e])))⟩
  ·
   cases hc
   have:=vu hown
   rwa [vz] at this
  ·
   have hx':=(yn.1 hx).1
   exact (h.sets x hx').kept (htn.block _ (h.slt x hx') (fun e=>h.off x hx' (by rw [e])))
theorem zU.set {w w1 w':World} {B:Nat} {p:Option Nat} {T:zF} (h:zT w B p T) (hb:Below w.heap.size w w1) {x:List UInt8×(Nat×zQ)} (hx:x∈T) (f:zQ→zQ) (hs:zW w' x.2.1 (f x.2.2)) (ht:zm (fun i=>i=x.2.1) w1 w'):zU w B p T (ZP f (zj T) x.1) w':=by
 refine ⟨p,_,(h.later hb).turned hx f hs ht,Fe f T x.1,(fun _ e=>.inl e),fun y hy=>.inl ?_,(zm.of_below hb _).next ht (fun i _ e=>.inr (.inr ⟨x,hx,e.symm⟩))⟩
 obtain ⟨q,hq,rfl⟩:=fF hy
 refine ⟨q,hq,?_⟩
 show q.2.1=(if q.1=x.1 then (q.2.1,f q.2.2) else q.2).1
 split <;> rfl
theorem at10 {T:zF} {k:List UInt8} (h:zx T k=true):∃ x∈T,x.1=k:=xT.1 h

set_option maxRecDepth 100000 in
theorem QU (B:Nat) (p:Option Nat) (T:zF) (g:ByteArray) (w:World) (h:zT w B p T) (hf:T.length≤6) (hg:g.size≤9223372036854775807) :
  Calls Tryz.prog 114 #[.pointer (some ⟨B,0,none⟩),.string g] w fun e w'=>e=.returned (.int .i64 (uS (zj T) g.data.toList))∧zU w B p T (qu (zj T) g.data.toList) w':=by
 have HI:=za h
 have HB0:Hid (Below w.heap.size w (w.alloc (.cells #[.string g] 9))):=z7 (Below.refl _ _) _
 have HN:=za (ud w.heap.size g _ hg (show (w.alloc (.cells #[.string g] 9)).cell? ⟨w.heap.size,0,none⟩=some (.string g) by rw [World.cell?_alloc_at _ _ _ _ rfl]; rfl))
 have HLK:Hid (∀ W,Below w.heap.size w W→(Instr.lookup 165 (.map p) (.string g) true).run Tryz.prog W=.ok (.tuple #[.map (qi T g.data.toList),.bool (zx T g.data.toList)]) W):=fun W hb=>look10 (h.later hb) g (Nat.le_trans hg (by decide))
 have HLE:Hid (∀ W ty,Below w.heap.size w W→(Builtin.len_ #[165] ty #[.map p]).run Tryz.prog W=.ok (.int .i64 T.length) W):=fun W ty hb=>len10 (h.later hb) ty
 have hmm:=@run_makeMap Tryz.prog
 unfold qu uS
 rw [vI,uF]
 have HPT:Hid (zf g.data.toList=true→∀ W,Below w.heap.size w W→Calls Tryz.prog 201 #[.pointer (some ⟨B,0,none⟩),.string g,.map (some W.heap.size)] (W.alloc (.map #[] 0)) fun e w'=>e=.returned (.tuple #[])∧zU w B p T (zP (zj T) g.data.toList []) w'):=fun hn W hb=>by
  have hb2:Below w.heap.size w (W.alloc (.map #[] 0)):=z8 hb (z7 (Below.refl _ _) _)
  refine (YZ B W.heap.size p T [] g _ (h.later hb2) (set10_made W) (fun x hx e=>?_) (fun e=>?_) (by omega) (uH hn)).mono fun e w' ⟨he,hp⟩=>⟨he,hp.goes hb2 hb.size⟩
  ·
   have:=h.slt x hx; have:=hb.size; omega
  ·
   have:=h.mlt _ e; have:=hb.size; omega
 clear h
 generalize qi T g.data.toList=o at *
 generalize zx T g.data.toList=b at *
 generalize zf g.data.toList=a at *
 generalize zP (zj T) g.data.toList []=S2 at *
 cases a with
 | false =>
  show Calls _ _ _ _ fun e w'=>e=.returned (.int .i64 10)∧zU w B p T (zj T) w'
  go_enter Tryz.func114,Tryz.ntmps114
  go_wp2_with fail
  with_reducible refine HN.out.mono ?_
  rintro e w1 ⟨rfl,hb⟩
  have HB:=za (z8 HB0.out hb)
  clear hb HN
  go_wp2
  go_ret
  exact ⟨rfl,zU.still HI.out HB.out⟩
 | true =>
  cases b with
  | true =>
   show Calls _ _ _ _ fun e w'=>e=.returned (.int .i64 9)∧zU w B p T (zj T) w'
   go_enter Tryz.func114,Tryz.ntmps114
   go_wp2_with fail
   with_reducible refine HN.out.mono ?_
   rintro e w1 ⟨rfl,hb⟩
   have hb1:=z8 HB0.out hb
   have HB:=za hb1
   have c1:=(HI.out.later hb1).cell
   have l1:=HLK.out _ hb1
   clear hb HN HLK hb1
   go_wp2
   go_ret
   exact ⟨rfl,zU.still HI.out HB.out⟩
  | false =>
   by_cases h6:6≤T.length
   ·
    have e7:(if true=true then if false=true then (9:Int) else if 6≤T.length then 7 else 0 else 10)=7:=by simp [h6]
    rw [e7,if_neg (by decide)]
    have z6:(T.length:Int) ≥ 6:=by omega
    have x6:decide ((T.length:Int) ≥ 6)=true:=decide_eq_true z6
    clear e7
    generalize hTL:T.length=tl at *
    have HTL:=za hTL
    clear hTL
    go_enter Tryz.func114,Tryz.ntmps114
    go_wp2_with fail
    with_reducible refine HN.out.mono ?_
    rintro e w1 ⟨rfl,hb⟩
    have hb1:=z8 HB0.out hb
    have HB:=za hb1
    have c1:=(HI.out.later hb1).cell
    have l1:=HLK.out _ hb1
    have l2:=fun ty=>HLE.out _ ty hb1
    clear hb HN HLK hb1 HLE
    go_wp2
    go_ret
    exact ⟨rfl,zU.still HI.out HB.out⟩
   ·
    have e0:(if true=true then if false=true then (9:Int) else if 6≤T.length then 7 else 0 else 10)=0:=by simp [h6]
    rw [e0,if_pos rfl]
    have z6:¬ (T.length:Int) ≥ 6:=by omega
    have x6:decide ((T.length:Int) ≥ 6)=false:=decide_eq_false z6
    have HP2:=za (HPT.out rfl)
    clear e0 HPT
    generalize hTL:T.length=tl at *
    have HTL:=za hTL
    clear hTL
    go_enter Tryz.func114,Tryz.ntmps114
    go_wp2_with fail
    with_reducible refine HN.out.mono ?_
    rintro e w1 ⟨rfl,hb⟩
    have hb1:=z8 HB0.out hb
    have c1:=(HI.out.later hb1).cell
    have l1:=HLK.out _ hb1
    have l2:=fun ty=>HLE.out _ ty hb1
    have HP3:=za (HP2.out _ hb1)
    clear hb HN HLK hb1 HLE HP2
    go_wp2_with fail
    with_reducible refine HP3.out.mono ?_
    rintro e w2 ⟨rfl,hg⟩
    have HG:=za hg
    clear hg HP3 c1 l1 l2
    go_wp2
    go_ret
    exact ⟨rfl,HG.out⟩

set_option maxRecDepth 100000 in
theorem Jg (B:Nat) (p:Option Nat) (T:zF) (g:ByteArray) (w:World) (h:zT w B p T) (hg:g.size≤9223372036854775807) :
  Calls Tryz.prog 158 #[.pointer (some ⟨B,0,none⟩),.string g] w fun e w'=>e=.returned (.int .i64 (jY (zj T) g.data.toList))∧zU w B p T (jA (zj T) g.data.toList) w':=by
 have HI:=za h
 have HFN:=za (Fx B p T g w h hg)
 have HDR:Hid (∀ W ty,Below w.heap.size w W→∃ w',(Builtin.delete_ #[165,9] ty #[.map p,.string g]).run Tryz.prog W=.ok (.tuple #[]) w'∧zU w B p T (yu (zj T) g.data.toList) w'):=fun W ty hb=>by
  obtain ⟨w',h1,h2⟩:=gdrop10 (h.later hb) g (Nat.le_trans hg (by decide)) ty
  exact ⟨w',h1,h2.ahead hb⟩
 unfold jA jY
 clear h
 by_cases hE:yF (zj T) g.data.toList []=0
 ·
  rw [hE] at HFN ⊢
  rw [if_pos rfl] at HFN ⊢
  clear hE
  generalize yu (zj T) g.data.toList=S2 at *
  generalize qi T g.data.toList=o at *
  go_enter Tryz.func158,Tryz.ntmps158
  go_wp2_with fail
  with_reducible refine HFN.out.mono ?_
  rintro e w1 ⟨rfl,hb⟩
  have c1:=(HI.out.later hb).cell
  obtain ⟨w2,hrun,hg2⟩:=HDR.out w1 0 hb
  have HG:=za hg2
  clear hb hg2 HFN HDR HI
  go_wp2
  go_ret
  exact ⟨rfl,HG.out⟩
 ·
  rw [if_neg hE]
  rw [if_neg hE] at HFN
  generalize yF (zj T) g.data.toList []=r at *
  go_enter Tryz.func158,Tryz.ntmps158
  go_wp2_with fail
  with_reducible refine HFN.out.mono ?_
  rintro e w1 ⟨rfl,hb⟩
  have HB:=za hb
  clear hb HFN HDR
  go_wp2
  go_ret
  exact ⟨rfl,zU.still HI.out HB.out⟩

set_option maxRecDepth 100000 in
theorem QX (B:Nat) (p:Option Nat) (T:zF) (g n:ByteArray) (w:World) (h:zT w B p T) (hl:∀ x∈T,x.2.2.length≤1000) (hg:g.size≤9223372036854775807) (hn:n.size≤9223372036854775807) :
  Calls Tryz.prog 162 #[.pointer (some ⟨B,0,none⟩),.string g,.string n] w fun e w'=>e=.returned (.int .i64 (qv (zj T) g.data.toList n.data.toList))∧zU w B p T (qP (zj T) g.data.toList n.data.toList) w':=by
 have HI:=za h
 have hb0:Below w.heap.size w (w.alloc (.cells #[.string n] 9)):=z7 (Below.refl _ _) _
 have HFN:=za (VS B p T g w.heap.size n _ (h.later hb0) hg hn (show (w.alloc (.cells #[.string n] 9)).cell? ⟨w.heap.size,0,none⟩=some (.string n) by rw [World.cell?_alloc_at _ _ _ _ rfl]; rfl))
 have HB0:=za hb0
 unfold qP qv
 clear hb0
 by_cases hE:yF (zj T) g.data.toList [n.data.toList]=0
 ·
  obtain ⟨z1,z2,z3⟩:=jw hE
  rw [vI] at z3
  obtain ⟨x,hx,hxg⟩:=at10 z3
  have hsz:n.size≤1000:=uH (by simpa using z2)
  have hin:uO (zj T) g.data.toList n.data.toList=zx x.2.2 n.data.toList:=by
   unfold uO
   rw [← hxg,X2 h.rise hx]
  have hblk:qi T g.data.toList=some x.2.1:=by rw [← hxg]; exact vM h.rise hx
  rw [hE,hblk] at HFN
  rw [if_pos rfl] at HFN
  rw [hE,if_pos rfl,hin]
  have HLK:Hid (∀ W,Below w.heap.size w W→(Instr.lookup 208 (.map (some x.2.1)) (.string n) false).run Tryz.prog W=.ok (.bool (zx x.2.2 n.data.toList)) W):=fun W hb=>has10 ((h.sets x hx).kept (hb.block _ (h.slt x hx))) n (Nat.le_trans hn (by decide))
  have HDO:Hid (∀ W,Below w.heap.size w W→Calls Tryz.prog 224 #[.map (some x.2.1),.string n] W fun e w'=>e=.returned (.tuple #[])∧zU w B p T (ZP (fun l=>zP l n.data.toList ()) (zj T) x.1) w'):=fun W hb =>
   (qc x.2.1 x.2.2 n W ((h.sets x hx).kept (hb.block _ (h.slt x hx))) (hl x hx) hsz).mono fun e w' ⟨he,h2,h3⟩=>⟨he,zU.set h hb hx (fun l=>zP l n.data.toList ()) h2 h3⟩
  clear h hE z1 z2 z3 hin hblk hsz hl
  rw [hxg] at HDO
  clear hx hxg
  generalize ZP (fun l=>zP l n.data.toList ()) (zj T) g.data.toList=S2 at *
  generalize zx x.2.2 n.data.toList=r at *
  generalize x.2.1=b at *
  cases r with
  | true =>
   show Calls _ _ _ _ fun e w'=>e=.returned (.int .i64 9)∧zU w B p T (zj T) w'
   go_enter Tryz.func162,Tryz.ntmps162
   go_wp2_with fail
   with_reducible refine HFN.out.mono ?_
   rintro e w1 ⟨rfl,hb⟩
   have hb1:=z8 HB0.out hb
   have HB:=za hb1
   have l1:=HLK.out _ hb1
   clear hb hb1 HFN HLK HDO
   go_wp2
   go_ret
   exact ⟨rfl,zU.still HI.out HB.out⟩
  | false =>
   show Calls _ _ _ _ fun e w'=>e=.returned (.int .i64 0)∧zU w B p T S2 w'
   go_enter Tryz.func162,Tryz.ntmps162
   go_wp2_with fail
   with_reducible refine HFN.out.mono ?_
   rintro e w1 ⟨rfl,hb⟩
   have hb1:=z8 HB0.out hb
   have l1:=HLK.out _ hb1
   have HD1:=za (HDO.out _ hb1)
   clear hb hb1 HFN HLK HDO
   go_wp2_with fail
   with_reducible refine HD1.out.mono ?_
   rintro e w2 ⟨rfl,hg⟩
   have HG:=za hg
   clear hg HD1 l1
   go_wp2
   go_ret
   exact ⟨rfl,HG.out⟩
 ·
  rw [if_neg hE,if_neg hE]
  rw [if_neg hE] at HFN
  clear h
  generalize yF (zj T) g.data.toList [n.data.toList]=r at *
  go_enter Tryz.func162,Tryz.ntmps162
  go_wp2_with fail
  with_reducible refine HFN.out.mono ?_
  rintro e w1 ⟨rfl,hb⟩
  have HB:=za (z8 HB0.out hb)
  clear hb HFN
  go_wp2
  go_ret
  exact ⟨rfl,zU.still HI.out HB.out⟩

set_option maxRecDepth 100000 in
theorem UB (B:Nat) (p:Option Nat) (T:zF) (g n:ByteArray) (w:World) (h:zT w B p T) (hg:g.size≤9223372036854775807) (hn:n.size≤9223372036854775807) :
  Calls Tryz.prog 163 #[.pointer (some ⟨B,0,none⟩),.string g,.string n] w fun e w'=>e=.returned (.int .i64 (Yd (zj T) g.data.toList n.data.toList))∧zU w B p T (Zz (zj T) g.data.toList n.data.toList) w':=by
 have HI:=za h
 have hb0:Below w.heap.size w (w.alloc (.cells #[.string n] 9)):=z7 (Below.refl _ _) _
 have HFN:=za (VS B p T g w.heap.size n _ (h.later hb0) hg hn (show (w.alloc (.cells #[.string n] 9)).cell? ⟨w.heap.size,0,none⟩=some (.string n) by rw [World.cell?_alloc_at _ _ _ _ rfl]; rfl))
 have HB0:=za hb0
 unfold Zz Yd
 clear hb0
 by_cases hE:yF (zj T) g.data.toList [n.data.toList]=0
 ·
  obtain ⟨z1,z2,z3⟩:=jw hE
  rw [vI] at z3
  obtain ⟨x,hx,hxg⟩:=at10 z3
  have hsz:n.size≤1000:=uH (by simpa using z2)
  have hin:uO (zj T) g.data.toList n.data.toList=zx x.2.2 n.data.toList:=by
   unfold uO
   rw [← hxg,X2 h.rise hx]
  have hblk:qi T g.data.toList=some x.2.1:=by rw [← hxg]; exact vM h.rise hx
  rw [hE,hblk] at HFN
  rw [if_pos rfl] at HFN
  rw [hE,if_pos rfl,hin]
  have HLK:Hid (∀ W,Below w.heap.size w W→(Instr.lookup 208 (.map (some x.2.1)) (.string n) false).run Tryz.prog W=.ok (.bool (zx x.2.2 n.data.toList)) W):=fun W hb=>has10 ((h.sets x hx).kept (hb.block _ (h.slt x hx))) n (Nat.le_trans hn (by decide))
  have HDO:Hid (∀ W ty,Below w.heap.size w W→∃ w',(Builtin.delete_ #[208,9] ty #[.map (some x.2.1),.string n]).run Tryz.prog W=.ok (.tuple #[]) w'∧zU w B p T (ZP (fun l=>yu l n.data.toList) (zj T) x.1) w'):=fun W ty hb=>by
   obtain ⟨w',h1,h2,h3⟩:=drop10 ((h.sets x hx).kept (hb.block _ (h.slt x hx))) n (Nat.le_trans hn (by decide)) ty
   exact ⟨w',h1,zU.set h hb hx (fun l=>yu l n.data.toList) h2 ((zm.refl _ W).grown h3.grown (fun k hk _=>by cases hk; rfl))⟩
  clear h hE z1 z2 z3 hin hblk hsz
  rw [hxg] at HDO
  clear hx hxg
  generalize ZP (fun l=>yu l n.data.toList) (zj T) g.data.toList=S2 at *
  generalize zx x.2.2 n.data.toList=r at *
  generalize x.2.1=b at *
  cases r with
  | false =>
   show Calls _ _ _ _ fun e w'=>e=.returned (.int .i64 12)∧zU w B p T (zj T) w'
   go_enter Tryz.func163,Tryz.ntmps163
   go_wp2_with fail
   with_reducible refine HFN.out.mono ?_
   rintro e w1 ⟨rfl,hb⟩
   have hb1:=z8 HB0.out hb
   have HB:=za hb1
   have l1:=HLK.out _ hb1
   clear hb hb1 HFN HLK HDO
   go_wp2
   go_ret
   exact ⟨rfl,zU.still HI.out HB.out⟩
  | true =>
   show Calls _ _ _ _ fun e w'=>e=.returned (.int .i64 0)∧zU w B p T S2 w'
   go_enter Tryz.func163,Tryz.ntmps163
   go_wp2_with fail
   with_reducible refine HFN.out.mono ?_
   rintro e w1 ⟨rfl,hb⟩
   have hb1:=z8 HB0.out hb
   have l1:=HLK.out _ hb1
   obtain ⟨w2,hrun,hg2⟩:=HDO.out w1 0 hb1
   have HG:=za hg2
   clear hb hb1 HFN HLK HDO hg2
   go_wp2
   go_ret
   exact ⟨rfl,HG.out⟩
 ·
  rw [if_neg hE,if_neg hE]
  rw [if_neg hE] at HFN
  clear h
  generalize yF (zj T) g.data.toList [n.data.toList]=r at *
  go_enter Tryz.func163,Tryz.ntmps163
  go_wp2_with fail
  with_reducible refine HFN.out.mono ?_
  rintro e w1 ⟨rfl,hb⟩
  have HB:=za (z8 HB0.out hb)
  clear hb HFN
  go_wp2
  go_ret
  exact ⟨rfl,zU.still HI.out HB.out⟩

set_option maxRecDepth 100000 in
theorem FU (B:Nat) (p:Option Nat) (T:zF) (w:World) (h:zT w B p T) (hf:T.length≤1000) :
  Calls Tryz.prog 123 #[.pointer (some ⟨B,0,none⟩)] w (yr (zb (zj T)) w):=by
 have HRS:Hid (Calls Tryz.prog 204 #[.map p,.slice none 0 0] w (yr (zb (zj T)) w)):=by
  rw [xB]
  cases p with
  | none =>
   have:=h.nil rfl
   subst this
   exact YR _ w
  | some m =>
   have:=fO m T (fun _=>true) (.slice none 0 0) w h.rise hf (h.map m rfl) (fun W' _ y _=>Fy _ W')
   rwa [List.filter_eq_self.2 (fun _ _=>rfl)] at this
 have hc:=h.cell
 clear h
 generalize zb (zj T)=ls at *
 go_enter Tryz.func123,Tryz.ntmps123
 go_wp2_with fail
 with_reducible refine HRS.out.mono ?_
 rintro e w2 ⟨v,rfl,hr,hb⟩
 have HN:Hid (yr ls w (.returned v) w2):=⟨v,rfl,hr,hb⟩
 obtain ⟨A,c,rfl⟩:∃ A c,v=.slice A ls.length c:=by
  rcases hr.2 with ⟨rfl,hz⟩ | ⟨g,cap,cur,rfl,_⟩
  ·
   exact ⟨none,0,by rw [hz]⟩
  ·
   exact ⟨_,cap,rfl⟩
 clear hr hb HRS hc
 generalize hn:ls.length=n at *
 clear hn
 go_wp2
 go_ret
 exact HN.out

theorem of10_rows (T:zF) (n:List UInt8):zb (T.filter fun x=>zx x.2.2 n)=yV (zj T) n:=by
 unfold yV ofs10 zj zb
 rw [List.filter_map,List.map_map]
 rfl
def YOf10 (B:Nat) (p:Option Nat) (n:ByteArray) (ls:List (List UInt8)) (w:World):Nat→Value→World→Prop
 | 3,v,_=>v=.map p
 | 4,v,_=>v=.string n
 | 5,v,W=>∃ C,v=.func (.func 247) #[] #[.pointer (some ⟨C,0,none⟩)]∧W.cell? ⟨C,0,none⟩=some (.string n)
 | 6,v,W=>∃ A C,v=.slice (some ⟨A,0,none⟩) 1 1∧W.cell? ⟨A,0,none⟩=some (.func (.func 247) #[] #[.pointer (some ⟨C,0,none⟩)])∧W.cell? ⟨C,0,none⟩=some (.string n)
 | 7,v,W=>yr ls w (.returned v) W
 | 8,v,W=>yr ls w (.returned v) W
 | _,v,_=>v=.pointer (some ⟨B,0,none⟩)
theorem yr.later {ls:List (List UInt8)} {w W W':World} {e:Ending} (h:yr ls w e W) (hb:Below W.heap.size W W'):yr ls w e W':=by
 obtain ⟨v,he,hr,hbw⟩:=h
 exact ⟨v,he,xt hr hb,z8 hbw hb⟩
theorem ZH {B:Nat} {p:Option Nat} {n:ByteArray} {ls:List (List UInt8)} {w W W':World} (hb:Below W.heap.size W W') (j:Nat) (u:Value) (h:YOf10 B p n ls w j u W):YOf10 B p n ls w j u W':=by
 have key:∀ (C:Nat) (v:Value),W.cell? ⟨C,0,none⟩=some v→W'.cell? ⟨C,0,none⟩=some v:=fun C v hC=>(hb.cell (p:=⟨C,0,none⟩) (World.block_lt_of_cell? W _ hC)).trans hC
 match j,h with
 | 0,h=>exact h
 | 1,h=>exact h
 | 2,h=>exact h
 | 3,h=>exact h
 | 4,h=>exact h
 | 5,h=>obtain ⟨C,e,hC⟩:=h; exact ⟨C,e,key C _ hC⟩
 | 6,h=>obtain ⟨A,C,e,hA,hC⟩:=h; exact ⟨A,C,e,key A _ hA,key C _ hC⟩
 | 7,h=>exact yr.later h hb
 | 8,h=>exact yr.later h hb
 | _+9,h=>exact h

set_option maxRecDepth 100000 in
theorem jL (B:Nat) (p:Option Nat) (T:zF) (n:ByteArray) (w:World) (h:zT w B p T) (hf:T.length≤1000) (hn:n.size≤9223372036854775807) :
  Calls Tryz.prog 132 #[.pointer (some ⟨B,0,none⟩),.string n] w (yr (yV (zj T) n.data.toList) w):=by
 have HRS:Hid (∀ W A C,Below w.heap.size w W→W.cell? ⟨A,0,none⟩=some (.func (.func 247) #[] #[.pointer (some ⟨C,0,none⟩)])→W.cell? ⟨C,0,none⟩=some (.string n) →
   Calls Tryz.prog 204 #[.map p,.slice (some ⟨A,0,none⟩) 1 1] W (yr (yV (zj T) n.data.toList) W)):=fun W A C hb hA hC=>by
  have lA:A<W.heap.size:=World.block_lt_of_cell? W _ hA
  have lC:C<W.heap.size:=World.block_lt_of_cell? W _ hC
  rw [← of10_rows]
  cases p with
  | none =>
   have:=h.nil rfl
   subst this
   exact YR _ W
  | some m =>
   exact fO m T (fun x=>zx x.2.2 n.data.toList) _ W h.rise hf ((h.later hb).map m rfl) (fun W' hb' y hy=>everys_one A C y.2.1 y.2.2 n W' (Nat.le_trans hn (by decide)) ((hb'.cell (p:=⟨A,0,none⟩) lA).trans hA) ((hb'.cell (p:=⟨C,0,none⟩) lC).trans hC) (((h.later hb).later hb').sets y hy))
 have HI:=za h
 have HFN:Hid (∀ W,Calls Tryz.prog 208 #[.string n] W fun e w'=>e=.returned (.func (.func 247) #[] #[.pointer (some ⟨W.heap.size,0,none⟩)])∧w'=W.alloc (.cells #[.string n] 9)):=fun W=>Ft n W
 clear h
 generalize yV (zj T) n.data.toList=ls at *
 go_enter Tryz.func132,Tryz.ntmps132
 go_wp2_with fail
 refine xN (by kernel_rfl) (fun W=>Below w.heap.size w W) (YOf10 B p n ls w) ?F ?hF (by kernel_rfl) (by kernel_rfl) (zZ (Below.refl _ _)) ?step ?fin
 case hF =>
  intro x
  simp only [List.map_cons,List.map_nil,vH,Act.put,List.setIfInBounds_toArray,List.set_cons_zero,List.set_cons_succ,Nat.zero_add,Nat.reduceAdd]
  exact rfl
 case step =>
  refine ⟨?_,?_,?_,?_,?_,?_,?_,?_,?_,trivial⟩
  all_goals intro x W hW hdep K hK
  ·
   clear hdep
   go_simp
   exact hK _ _ rfl hW (fun _ _ h=>h)
  ·
   have h0:x 0=_:=hdep 0 rfl
   clear hdep
   simp only [h0] at hK
   go_simp
   exact hK _ _ rfl hW (fun _ _ h=>h)
  ·
   have h1:x 1=_:=hdep 1 rfl
   clear hdep
   simp only [h1] at hK
   go_simp
   exact hK _ _ rfl hW (fun _ _ h=>h)
  ·
   have h2:x 2=_:=hdep 2 rfl
   have c:=(HI.out.later hW).cell
   clear hdep
   simp only [h2] at hK
   go_simp
   exact hK _ _ rfl hW (fun _ _ h=>h)
  ·
   clear hdep
   go_simp
   exact hK _ _ rfl hW (fun _ _ h=>h)
  ·
   have h4:x 4=_:=hdep 4 rfl
   have hc:=HFN.out W
   clear hdep
   simp only [h4] at hK
   go_simp
   refine hc.mono ?_
   rintro e W' ⟨rfl,rfl⟩
   have hb:Below W.heap.size W (W.alloc (.cells #[.string n] 9)):=z7 (Below.refl _ _) _
   exact hK _ _ ⟨W.heap.size,rfl,by rw [World.cell?_alloc_at _ _ _ _ rfl]; rfl⟩ (z8 hW hb) (ZH hb)
  ·
   obtain ⟨C,h5,hC⟩:=(show YOf10 B p n ls w 5 (x 5) W from hdep 5 rfl)
   simp only [h5] at hK
   have lC:C<W.heap.size:=World.block_lt_of_cell? W _ hC
   clear hdep
   go_simp
   have hb:Below W.heap.size W (W.alloc (.cells #[.func (.func 247) #[] #[.pointer (some ⟨C,0,none⟩)]] 216)):=z7 (Below.refl _ _) _
   exact hK _ _ ⟨W.heap.size,C,rfl,by rw [World.cell?_alloc_at _ _ _ _ rfl]; rfl,(hb.cell (p:=⟨C,0,none⟩) lC).trans hC⟩ (z8 hW hb) (ZH hb)
  ·
   have h3:x 3=_:=hdep 3 rfl
   obtain ⟨A,C,h6,hA,hC⟩:=(show YOf10 B p n ls w 6 (x 6) W from hdep 6 rfl)
   have hc:=HRS.out W A C hW hA hC
   simp only [h6] at hK
   clear hdep
   simp only [h3] at hK
   go_simp
   refine hc.mono ?_
   rintro e W' ⟨v,rfl,hr,hb⟩
   exact hK _ _ ⟨v,rfl,zC hr hW.size,z8 hW hb⟩ (z8 hW hb) (ZH hb)
  ·
   have h7:yr ls w (.returned (x 7)) W:=hdep 7 rfl
   clear hdep
   go_simp
   exact hK _ _ h7 hW (fun _ _ h=>h)
 case fin =>
  intro x W hW hY
  have h8:yr ls w (.returned (x 8)) W:=hY 8 (by decide)
  obtain ⟨v,he,hr,hb⟩:=h8
  injection he with he
  have HN:Hid (yr ls w (.returned v) W):=⟨v,rfl,hr,hb⟩
  clear hY hW HI HFN HRS hr hb
  rw [he]
  go_wp2
  go_ret
  exact HN.out

def un (f:zQ→zQ) (ls:List (List UInt8)) (T:zF):zF:=T.map fun x=>if x.1∈ls then (x.1,(x.2.1,f x.2.2)) else x
theorem YI (f:zQ→zQ) (T:zF):un f [] T=T:=by
 unfold un
 simp
theorem fK {f:zQ→zQ} {ls:List (List UInt8)} {T:zF} {x:List UInt8×(Nat×zQ)} (hx:x∈T) (hn:x.1∉ls):x∈un f ls T:=List.mem_map.2 ⟨x,hx,if_neg hn⟩
theorem YJ {f:zQ→zQ} {ls:List (List UInt8)} {T:zF} {y:List UInt8×(Nat×zQ)} (hy:y∈un f ls T):∃ x∈T,x.2.1=y.2.1:=by
 obtain ⟨x,hx,rfl⟩:=List.mem_map.1 hy
 refine ⟨x,hx,?_⟩
 split <;> rfl
theorem stepT_snoc {f:zQ→zQ} {ls:List (List UInt8)} {T:zF} {k:List UInt8} (hk:k∉ls):ZP (fun v=>(v.1,f v.2)) (un f ls T) k=un f (ls++[k]) T:=by
 unfold un ZP
 rw [List.map_map]
 refine List.map_congr_left fun x _=>?_
 by_cases e:x.1∈ls
 ·
  have hne:x.1≠k:=fun e'=>hk (e' ▸ e)
  simp [e,hne]
 ·
  by_cases e':x.1=k
  ·
   subst e'
   simp [e]
  ·
   simp [e,e']
theorem YH (f:zQ→zQ) (ls:List (List UInt8)) (T:zF):zj (un f ls T)=(zj T).map fun p=>if p.1∈ls then (p.1,f p.2) else p:=by
 unfold zj un
 rw [List.map_map,List.map_map]
 refine List.map_congr_left fun x _=>?_
 by_cases e:x.1∈ls <;> simp [e]
theorem Ub {S:zw} (hr:zA S) (n:List UInt8) {p:List UInt8×zQ} (hp:p∈S):p.1∈yV S n↔zx p.2 n=true:=by
 rw [xC hr]
 unfold uO
 rw [Yr hr hp]
theorem F5 {T:zF} (hr:zA (zj T)) (n:List UInt8):zj (un (fun l=>yu l n) (yV (zj T) n) T)=jT (zj T) n:=by
 rw [YH]
 unfold jT
 refine List.map_congr_left fun p hp=>?_
 by_cases e:p.1∈yV (zj T) n
 ·
  rw [if_pos e]
 ·
  rw [if_neg e,XE]
  cases h:zx p.2 n
  ·
   rfl
  ·
   exact absurd ((Ub hr n hp).2 h) e
theorem F3 {T:zF} (hr:zA (zj T)) (o n:List UInt8):zj (un (fun l=>zP (yu l o) n ()) (yV (zj T) o) T)=(zj T).map fun p=>(p.1,fR o n p.2):=by
 rw [YH]
 refine List.map_congr_left fun p hp=>?_
 unfold fR
 by_cases e:p.1∈yV (zj T) o
 ·
  rw [if_pos e,if_pos ((Ub hr o hp).1 e)]
 ·
  rw [if_neg e]
  cases h:zx p.2 o
  ·
   rfl
  ·
   exact absurd ((Ub hr o hp).2 h) e
theorem Zn {l:List (List UInt8)} (h:ut l) {k:Nat} (hk:k<l.length):l[k]∉l.take k:=by
 intro hm
 obtain ⟨j,hj,e⟩:=List.getElem_of_mem hm
 rw [List.getElem_take] at e
 have hjk:j<k:=by simp at hj; omega
 have:=List.pairwise_iff_getElem.1 h j k (by omega) hk hjk
 rw [e,zD] at this
 cases this
theorem row10 {w:World} {base:Nat} {v:Value} {ls:List (List UInt8)} (h:w.ownsRow base 9 1 v ls.length (ls.map encStr)) :
  (v=.slice none 0 0∧ls=[])∨∃ g cap cur,v=.slice (some ⟨g,0,none⟩) ls.length cap∧base≤g∧w.heap[g]? = some (.cells cur 9 (0,0))∧∀ j (h:j<ls.length),cur[j]? = some (.string (zI ls[j])):=by
 rcases h.2 with ⟨rfl,hz⟩ | ⟨g,cap,cur,rfl,hb,hg,r1,r2,r3,r4⟩
 ·
  exact .inl ⟨rfl,List.eq_nil_of_length_eq_zero hz⟩
 ·
  refine .inr ⟨g,cap,cur,rfl,hb,hg,fun j hj=>?_⟩
  have h2:(List.take (ls.length * 1) cur.toList)[j]? = some (.string (zI ls[j])):=by rw [r4]; simp [hj,encStr,zI]
  rw [List.getElem?_take,if_pos (by omega)] at h2
  simpa using h2
theorem fM {w wr:World} {base:Nat} {v:Value} {ls:List (List UInt8)} {S:Nat→Prop} (h:w.ownsRow base 9 1 v ls.length (ls.map encStr)) (ht:zm S w wr) (hS:∀ i c T fr,w.heap[i]? = some (.cells c T fr)→T=9→¬ S i) {k:Nat} (hk:k<ls.length) :
  ∃ g cap,v=.slice (some ⟨g,0,none⟩) ls.length cap∧wr.cell? ⟨g,k,none⟩=some (.string (zI ls[k])):=by
 rcases row10 h with ⟨_,rfl⟩ | ⟨g,cap,cur,rfl,_,hg,hc⟩
 ·
  exact absurd hk (Nat.not_lt_zero _)
 ·
  refine ⟨g,cap,rfl,?_⟩
  have h1:wr.heap[g]? = some (.cells cur 9 (0,0)):=(ht.block g (Array.getElem?_eq_some_iff.1 hg).1 (hS g _ _ _ hg rfl)).trans hg
  have h2:=hc k hk
  simp [World.cell?,h1,h2]
theorem xA {w:World} {base:Nat} {v:Value} {ls:List (List UInt8)} (h:w.ownsRow base 9 1 v ls.length (ls.map encStr)):∃ A c,v=.slice A ls.length c:=by
 rcases row10 h with ⟨rfl,rfl⟩ | ⟨g,cap,cur,rfl,_⟩
 ·
  exact ⟨none,0,rfl⟩
 ·
  exact ⟨_,cap,rfl⟩
theorem zT.step {w w':World} {B:Nat} {p:Option Nat} {T:zF} {f:zQ→zQ} {ls:List (List UInt8)} (h:zT w B p (un f ls T)) {x:List UInt8×(Nat×zQ)} (hx:x∈T) (hn:x.1∉ls) (hs:zW w' x.2.1 (f x.2.2)) (ht:zm (fun i=>i=x.2.1) w w'):zT w' B p (un f (ls++[x.1]) T):=by
 have:=h.turned (fK hx hn) f hs ht
 rwa [stepT_snoc hn] at this

set_option maxRecDepth 100000 in
theorem V3 (B:Nat) (p:Option Nat) (T:zF) (n:ByteArray) (w:World) (h:zT w B p T) (hf:T.length≤1000) (hnm:∀ x∈T,x.1.length≤1000) (hn:n.size≤9223372036854775807) :
  Calls Tryz.prog 121 #[.pointer (some ⟨B,0,none⟩),.string n] w fun e w'=>e=.returned (.int .i64 ((yV (zj T) n.data.toList).length:Nat))∧zU w B p T (jT (zj T) n.data.toList) w':=by
 have HOF:=za (jL B p T n w h hf hn)
 have hrs:zA (zj T):=yN h.rise (xB T)
 have HRM:=za (F5 hrs n.data.toList)
 have HNZ:Hid (n.size≤maxLen):=Nat.le_trans hn (by decide)
 have HI:=za h
 have HTL0:Hid (∀ g∈yV (zj T) n.data.toList,∃ x∈T,x.1=g):=fun g hg=>by
  have:=jK hg
  rw [xB] at this
  obtain ⟨x,hx,e⟩:=List.mem_map.1 this
  exact ⟨x,hx,e⟩
 have HRL:Hid (ut (yV (zj T) n.data.toList)):=xM hrs _
 obtain ⟨l,hl⟩:∃ l,yV (zj T) n.data.toList=l:=⟨_,rfl⟩
 rw [hl] at HOF HRM HTL0 HRL ⊢
 have HL:=za hl
 have HTL:Hid (∀ k (h:k<l.length),∃ x∈T,x.1=l[k]):=fun k hk=>HTL0.out _ (List.getElem_mem hk)
 have HLN:Hid (∀ g∈l,g.length≤maxLen):=fun g hg=>by
  obtain ⟨x,hx,e⟩:=HTL0.out g hg
  rw [← e]
  exact Nat.le_trans (hnm x hx) (by decide)
 have HB1:=za (Below.refl w.heap.size w)
 clear h hrs hl HTL0 hn hnm
 go_enter Tryz.func121,Tryz.ntmps121
 go_wp2_with fail
 with_reducible refine HOF.out.mono ?_
 rintro e w1 ⟨v,rfl,hr,hb⟩
 have HRO:=za hr
 have HB2:=za (z8 HB1.out hb)
 have HI2:=za (HI.out.later (z8 HB1.out hb))
 obtain ⟨A,c,rfl⟩:=xA hr
 have hcl:l.length≤T.length:=by rw [← HL.out]; exact Nat.le_trans (X6 _ _) (Nat.le_of_eq (uF T))
 obtain ⟨len,hlen⟩:∃ len,len=l.length:=⟨_,rfl⟩
 rw [← hlen] at hcl ⊢
 have HLEN:=za hlen
 have hlz:len≤1000:=by omega
 have HCL:=za hcl
 clear hr hb hlen hcl
 clear HOF
 go_wp2
 go_loopg [13] len (fun gg s13 wr=>∃ k:Nat,k≤len∧len - k≤gg∧s13=.int .i64 k∧Hid (zT wr B p (un (fun l=>yu l n.data.toList) (l.take k) T))∧Hid (zm (fun i=>∃ x∈T,x.2.1=i) w1 wr))
 case atStart=>exact ⟨0,Nat.zero_le _,by omega,rfl,(by show zT _ _ _ _; rw [List.take_zero,YI]; exact HI2.out),zm.refl _ _⟩
 case round =>
  obtain ⟨k,hk,hg,rfl,HG,HT⟩:=hrel
  by_cases hlt:k<len
  ·
   have hltz:(k:Int)<(len:Int):=by omega
   have hkl:k<l.length:=HLEN.out ▸ hlt
   obtain ⟨x,hx,hxn⟩:=HTL.out k hkl
   have hnot:l[k]∉l.take k:=Zn HRL.out hkl
   have hxk:x∈un (fun l=>yu l n.data.toList) (l.take k) T:=fK hx (by rw [hxn]; exact hnot)
   obtain ⟨g,cap,e2,x0⟩:=fM HRO.out HT.out (fun i c0 T0 fr hi _ hS=>by obtain ⟨y,hy,e⟩:=hS; exact ye (HI2.out.sets y hy) hi e) hkl
   injection e2 with e2 e2n e2c
   subst e2
   clear e2n e2c
   have c0:=HG.out.cell
   have htk:l.take (k+1)=l.take k++[x.1]:=by rw [List.take_succ_eq_append_getElem hkl,hxn]
   have l1:=Xf HG.out (zI l[k]) (by rw [xF]; exact HLN.out _ (List.getElem_mem hkl))
   rw [zy,← hxn,vM HG.out.rise hxk] at l1
   rw [← hxn] at x0
   obtain ⟨w5,hrun,hs5,ht5⟩:=drop10 (HG.out.sets x hxk) n HNZ.out 0
   have ht5':zm (fun i=>i=x.2.1) wr w5:=(zm.refl _ wr).grown ht5.grown (fun k hk _=>by cases hk; rfl)
   have HG2:Hid (zT w5 B p (un (fun l=>yu l n.data.toList) (l.take (k+1)) T)):=by
    show zT _ _ _ _
    rw [htk]
    exact HG.out.step hx (by rw [hxn]; exact hnot) hs5 ht5'
   have HT2:Hid (zm (fun i=>∃ x∈T,x.2.1=i) w1 w5):=HT.out.next ht5' (fun i _ e=>⟨x,hx,e.symm⟩)
   clear hs5 ht5 ht5' htk hxk hx hnot HG HT hxn hkl
   generalize zI x.1=sx at *
   generalize x.2.1=bx at *
   go_wp2
   go_roundg (len - (k+1))
   case measure=>omega
   case rel=>exact ⟨k+1,by omega,by omega,by go_num,HG2,HT2⟩
  ·
   have hltz:¬ (k:Int)<(len:Int):=by omega
   obtain rfl:k=len:=by omega
   have hgd:=HG.out
   rw [List.take_of_length_le (by have:=HLEN.out; omega)] at hgd
   have HF:Hid (zU w B p T (jT (zj T) n.data.toList) wr):=⟨p,_,hgd,HRM.out,(fun _ e=>.inl e),fun y hy=>.inl (by obtain ⟨x,hx,e⟩:=YJ hy; exact ⟨x,hx,e⟩),(zm.of_below HB2.out _).next HT.out (fun i _ e=>.inr (.inr e))⟩
   clear hgd HG HT
   go_wp2
   go_ret
   exact ⟨by rw [← HLEN.out]; rfl,HF.out⟩

set_option maxRecDepth 100000 in
theorem V2 (B:Nat) (p:Option Nat) (T:zF) (o n:ByteArray) (w:World) (h:zT w B p T) (hf:T.length≤1000) (hnm:∀ x∈T,x.1.length≤1000) (hlt:∀ x∈T,x.2.2.length≤1000) (ho:o.size≤9223372036854775807) (hn:n.size≤9223372036854775807) :
  Calls Tryz.prog 154 #[.pointer (some ⟨B,0,none⟩),.string o,.string n] w fun e w'=>e=.returned (.int .i64 (fS (zj T) o.data.toList n.data.toList))∧zU w B p T (Zq (zj T) o.data.toList n.data.toList) w':=by
 have HOFO:Hid (∀ W,Below w.heap.size w W→Calls Tryz.prog 132 #[.pointer (some ⟨B,0,none⟩),.string o] W (yr (yV (zj T) o.data.toList) W)):=fun W hb=>jL B p T o W (h.later hb) hf ho
 have HOFN:Hid (∀ W,Below w.heap.size w W→Calls Tryz.prog 132 #[.pointer (some ⟨B,0,none⟩),.string n] W (yr (yV (zj T) n.data.toList) W)):=fun W hb=>jL B p T n W (h.later hb) hf hn
 have HB0:Hid (Below w.heap.size w (w.alloc (.cells #[.string n] 9))):=z7 (Below.refl _ _) _
 have HN:=za (ud w.heap.size n _ hn (show (w.alloc (.cells #[.string n] 9)).cell? ⟨w.heap.size,0,none⟩=some (.string n) by rw [World.cell?_alloc_at _ _ _ _ rfl]; rfl))
 have hrs:zA (zj T):=yN h.rise (xB T)
 have HRM:=za (F3 hrs o.data.toList n.data.toList)
 have HNZ:Hid (o.size≤maxLen):=Nat.le_trans ho (by decide)
 have HI:=za h
 have HLT:=za hlt
 have HTL0:Hid (∀ g∈yV (zj T) o.data.toList,∃ x∈T,x.1=g):=fun g hg=>by
  have:=jK hg
  rw [xB] at this
  obtain ⟨x,hx,e⟩:=List.mem_map.1 this
  exact ⟨x,hx,e⟩
 have HRL:Hid (ut (yV (zj T) o.data.toList)):=xM hrs _
 obtain ⟨l,hl⟩:∃ l,yV (zj T) o.data.toList=l:=⟨_,rfl⟩
 rw [hl] at HOFO HRM HTL0 HRL
 have HL:=za hl
 have HTL:Hid (∀ k (h:k<l.length),∃ x∈T,x.1=l[k]):=fun k hk=>HTL0.out _ (List.getElem_mem hk)
 have HLN:Hid (∀ g∈l,g.length≤maxLen):=fun g hg=>by
  obtain ⟨x,hx,e⟩:=HTL0.out g hg
  rw [← e]
  exact Nat.le_trans (hnm x hx) (by decide)
 unfold Zq fS
 clear h hrs hl HTL0 ho hn hnm hlt
 cases hnn:zf n.data.toList with
 | false =>
  rw [hnn] at HN
  show Calls _ _ _ _ fun e w'=>e=.returned (.int .i64 10)∧zU w B p T (zj T) w'
  clear hnn
  go_enter Tryz.func154,Tryz.ntmps154
  go_wp2_with fail
  with_reducible refine HN.out.mono ?_
  rintro e w1 ⟨rfl,hb⟩
  have HB:=za (z8 HB0.out hb)
  clear hb HN
  go_wp2
  go_ret
  exact ⟨rfl,zU.still HI.out HB.out⟩
 | true =>
  have HSZ:=za (uH hnn)
  rw [hnn] at HN
  clear hnn
  by_cases e:n.data.toList=o.data.toList
  ·
   have hon:n=o:=by rw [← xo n,e,xo]
   have e0:(if true=true then if n.data.toList≠o.data.toList∧yV (zj T) n.data.toList≠[] then (9:Int) else 0 else 10)=0:=by simp [e]
   rw [e0,if_pos rfl]
   clear e e0 HOFN
   subst hon
   have n1:(n.toList != n.toList)=false:=by simp
   have n2:(n.toList == n.toList)=true:=by simp
   go_enter Tryz.func154,Tryz.ntmps154
   go_wp2_with fail
   with_reducible refine HN.out.mono ?_
   rintro e w9 ⟨rfl,hb⟩
   have HB1:=za (z8 HB0.out hb)
   have HOF:=za (HOFO.out _ HB1.out)
   clear hb HN HOFO
   go_wp2_with fail
   with_reducible refine HOF.out.mono ?_
   rintro e w1 ⟨v,rfl,hr,hb⟩
   have HRO:=za hr
   have HB2:=za (z8 HB1.out hb)
   have HI2:=za (HI.out.later (z8 HB1.out hb))
   obtain ⟨A,c,rfl⟩:=xA hr
   have hcl:l.length≤T.length:=by rw [← HL.out]; exact Nat.le_trans (X6 _ _) (Nat.le_of_eq (uF T))
   obtain ⟨len,hlen⟩:∃ len,len=l.length:=⟨_,rfl⟩
   rw [← hlen] at hcl ⊢
   have HLEN:=za hlen
   have hlz:len≤1000:=by omega
   have HCL:=za hcl
   clear hr hb hlen hcl
   clear HOF
   go_wp2
   go_loopg [27] len (fun gg s27 wr=>∃ k:Nat,k≤len∧len - k≤gg∧s27=.int .i64 k∧Hid (zT wr B p (un (fun l=>zP (yu l n.data.toList) n.data.toList ()) (l.take k) T))∧Hid (zm (fun i=>∃ x∈T,x.2.1=i) w1 wr))
   case atStart=>exact ⟨0,Nat.zero_le _,by omega,rfl,(by show zT _ _ _ _; rw [List.take_zero,YI]; exact HI2.out),zm.refl _ _⟩
   case round =>
    obtain ⟨k,hk,hg,rfl,HG,HT⟩:=hrel
    by_cases hlt:k<len
    ·
     have hltz:(k:Int)<(len:Int):=by omega
     have hkl:k<l.length:=HLEN.out ▸ hlt
     obtain ⟨x,hx,hxn⟩:=HTL.out k hkl
     have hnot:l[k]∉l.take k:=Zn HRL.out hkl
     have hxk:x∈un (fun l=>zP (yu l n.data.toList) n.data.toList ()) (l.take k) T:=fK hx (by rw [hxn]; exact hnot)
     obtain ⟨g,cap,e2,x0⟩:=fM HRO.out HT.out (fun i c0 T0 fr hi _ hS=>by obtain ⟨y,hy,e⟩:=hS; exact ye (HI2.out.sets y hy) hi e) hkl
     injection e2 with e2 e2n e2c
     subst e2
     clear e2n e2c
     have c0:=HG.out.cell
     have htk:l.take (k+1)=l.take k++[x.1]:=by rw [List.take_succ_eq_append_getElem hkl,hxn]
     have l1:=Xf HG.out (zI l[k]) (by rw [xF]; exact HLN.out _ (List.getElem_mem hkl))
     rw [zy,← hxn,vM HG.out.rise hxk] at l1
     rw [← hxn] at x0
     obtain ⟨w5,hrun,hs5,ht5⟩:=drop10 (HG.out.sets x hxk) n HNZ.out 0
     have ht5':zm (fun i=>i=x.2.1) wr w5:=(zm.refl _ wr).grown ht5.grown (fun k hk _=>by cases hk; rfl)
     have hg5:=HG.out.turned hxk (fun l=>yu l n.data.toList) hs5 ht5'
     have hx5:(x.1,(x.2.1,yu x.2.2 n.data.toList))∈ZP (fun v:Nat×zQ=>(v.1,yu v.2 n.data.toList)) (un (fun l=>zP (yu l n.data.toList) n.data.toList ()) (l.take k) T) x.1:=List.mem_map.2 ⟨x,hxk,if_pos rfl⟩
     have l5:=Xf hg5 (zI x.1) (by rw [xF,hxn]; exact HLN.out _ (List.getElem_mem hkl))
     rw [zy,vM hg5.rise hx5] at l5
     have c5:=hg5.cell
     have HAD:Hid (Calls Tryz.prog 224 #[.map (some x.2.1),.string n] w5 fun e w'=>e=.returned (.tuple #[])∧zT w' B p (un (fun l=>zP (yu l n.data.toList) n.data.toList ()) (l.take (k+1)) T)∧zm (fun i=>∃ x∈T,x.2.1=i) w1 w') :=
      (qc x.2.1 (yu x.2.2 n.data.toList) n w5 hs5 (Nat.le_trans (jC _ _) (HLT.out x hx)) HSZ.out).mono fun e w' ⟨he,h2,h3⟩=>by
       refine ⟨he,?_,HT.out.next (ht5'.next h3 (fun i _ e=>e)) (fun i _ e=>⟨x,hx,e.symm⟩)⟩
       rw [htk]
       exact HG.out.step hx (by rw [hxn]; exact hnot) h2 (ht5'.next h3 (fun i _ e=>e))
     clear hs5 ht5 ht5' htk hxk hx hnot HG HT hxn hkl hg5 hx5
     generalize zI x.1=sx at *
     generalize x.2.1=bx at *
     go_wp2_with (go_at_call 224; (with_reducible refine HAD.out.mono ?_); rintro e w6 ⟨rfl,hg6,ht6⟩; have HG2:=za hg6; have HT2:=za ht6; clear hg6 ht6)
     go_roundg (len - (k+1))
     case measure=>omega
     case rel=>exact ⟨k+1,by omega,by omega,by go_num,HG2,HT2⟩
    ·
     have hltz:¬ (k:Int)<(len:Int):=by omega
     obtain rfl:k=len:=by omega
     have hgd:=HG.out
     rw [List.take_of_length_le (by have:=HLEN.out; omega)] at hgd
     have HF:Hid (zU w B p T ((zj T).map fun p=>(p.1,fR n.data.toList n.data.toList p.2)) wr):=⟨p,_,hgd,HRM.out,(fun _ e=>.inl e),fun y hy=>.inl (by obtain ⟨x,hx,e⟩:=YJ hy; exact ⟨x,hx,e⟩),(zm.of_below HB2.out _).next HT.out (fun i _ e=>.inr (.inr e))⟩
     clear hgd HG HT
     go_wp2
     go_ret
     exact ⟨rfl,HF.out⟩
  ·
   have n2:(n.toList == o.toList)=false:=by rw [Lib.toList_data,Lib.toList_data]; simpa using e
   have n1:¬ n.toList=o.toList:=by simpa using n2
   by_cases h9:yV (zj T) n.data.toList=[]
   ·
    have e0:(if true=true then if n.data.toList≠o.data.toList∧yV (zj T) n.data.toList≠[] then (9:Int) else 0 else 10)=0:=by simp [h9]
    rw [e0,if_pos rfl]
    rw [h9] at HOFN
    clear e e0 h9
    go_enter Tryz.func154,Tryz.ntmps154
    go_wp2_with fail
    with_reducible refine HN.out.mono ?_
    rintro e w7 ⟨rfl,hb⟩
    have HB7:=za (z8 HB0.out hb)
    have HON:=za (HOFN.out _ HB7.out)
    clear hb HN HOFN
    go_wp2_with fail
    with_reducible refine HON.out.mono ?_
    rintro e w8 ⟨v8,rfl,hr8,hb⟩
    obtain ⟨A8,c8,rfl⟩:=xA hr8
    have HB1:=za (z8 HB7.out hb)
    have HOF:=za (HOFO.out _ HB1.out)
    clear hb hr8 HON HOFO
    go_wp2_with fail
    with_reducible refine HOF.out.mono ?_
    rintro e w1 ⟨v,rfl,hr,hb⟩
    have HRO:=za hr
    have HB2:=za (z8 HB1.out hb)
    have HI2:=za (HI.out.later (z8 HB1.out hb))
    obtain ⟨A,c,rfl⟩:=xA hr
    have hcl:l.length≤T.length:=by rw [← HL.out]; exact Nat.le_trans (X6 _ _) (Nat.le_of_eq (uF T))
    obtain ⟨len,hlen⟩:∃ len,len=l.length:=⟨_,rfl⟩
    rw [← hlen] at hcl ⊢
    have HLEN:=za hlen
    have hlz:len≤1000:=by omega
    have HCL:=za hcl
    clear hr hb hlen hcl
    clear HOF
    go_wp2
    go_loopg [27] len (fun gg s27 wr=>∃ k:Nat,k≤len∧len - k≤gg∧s27=.int .i64 k∧Hid (zT wr B p (un (fun l=>zP (yu l o.data.toList) n.data.toList ()) (l.take k) T))∧Hid (zm (fun i=>∃ x∈T,x.2.1=i) w1 wr))
    case atStart=>exact ⟨0,Nat.zero_le _,by omega,rfl,(by show zT _ _ _ _; rw [List.take_zero,YI]; exact HI2.out),zm.refl _ _⟩
    case round =>
     obtain ⟨k,hk,hg,rfl,HG,HT⟩:=hrel
     by_cases hlt:k<len
     ·
      have hltz:(k:Int)<(len:Int):=by omega
      have hkl:k<l.length:=HLEN.out ▸ hlt
      obtain ⟨x,hx,hxn⟩:=HTL.out k hkl
      have hnot:l[k]∉l.take k:=Zn HRL.out hkl
      have hxk:x∈un (fun l=>zP (yu l o.data.toList) n.data.toList ()) (l.take k) T:=fK hx (by rw [hxn]; exact hnot)
      obtain ⟨g,cap,e2,x0⟩:=fM HRO.out HT.out (fun i c0 T0 fr hi _ hS=>by obtain ⟨y,hy,e⟩:=hS; exact ye (HI2.out.sets y hy) hi e) hkl
      injection e2 with e2 e2n e2c
      subst e2
      clear e2n e2c
      have c0:=HG.out.cell
      have htk:l.take (k+1)=l.take k++[x.1]:=by rw [List.take_succ_eq_append_getElem hkl,hxn]
      have l1:=Xf HG.out (zI l[k]) (by rw [xF]; exact HLN.out _ (List.getElem_mem hkl))
      rw [zy,← hxn,vM HG.out.rise hxk] at l1
      rw [← hxn] at x0
      obtain ⟨w5,hrun,hs5,ht5⟩:=drop10 (HG.out.sets x hxk) o HNZ.out 0
      have ht5':zm (fun i=>i=x.2.1) wr w5:=(zm.refl _ wr).grown ht5.grown (fun k hk _=>by cases hk; rfl)
      have hg5:=HG.out.turned hxk (fun l=>yu l o.data.toList) hs5 ht5'
      have hx5:(x.1,(x.2.1,yu x.2.2 o.data.toList))∈ZP (fun v:Nat×zQ=>(v.1,yu v.2 o.data.toList)) (un (fun l=>zP (yu l o.data.toList) n.data.toList ()) (l.take k) T) x.1:=List.mem_map.2 ⟨x,hxk,if_pos rfl⟩
      have l5:=Xf hg5 (zI x.1) (by rw [xF,hxn]; exact HLN.out _ (List.getElem_mem hkl))
      rw [zy,vM hg5.rise hx5] at l5
      have c5:=hg5.cell
      have HAD:Hid (Calls Tryz.prog 224 #[.map (some x.2.1),.string n] w5 fun e w'=>e=.returned (.tuple #[])∧zT w' B p (un (fun l=>zP (yu l o.data.toList) n.data.toList ()) (l.take (k+1)) T)∧zm (fun i=>∃ x∈T,x.2.1=i) w1 w') :=
       (qc x.2.1 (yu x.2.2 o.data.toList) n w5 hs5 (Nat.le_trans (jC _ _) (HLT.out x hx)) HSZ.out).mono fun e w' ⟨he,h2,h3⟩=>by
        refine ⟨he,?_,HT.out.next (ht5'.next h3 (fun i _ e=>e)) (fun i _ e=>⟨x,hx,e.symm⟩)⟩
        rw [htk]
        exact HG.out.step hx (by rw [hxn]; exact hnot) h2 (ht5'.next h3 (fun i _ e=>e))
      clear hs5 ht5 ht5' htk hxk hx hnot HG HT hxn hkl hg5 hx5
      generalize zI x.1=sx at *
      generalize x.2.1=bx at *
      go_wp2_with (go_at_call 224; (with_reducible refine HAD.out.mono ?_); rintro e w6 ⟨rfl,hg6,ht6⟩; have HG2:=za hg6; have HT2:=za ht6; clear hg6 ht6)
      go_roundg (len - (k+1))
      case measure=>omega
      case rel=>exact ⟨k+1,by omega,by omega,by go_num,HG2,HT2⟩
     ·
      have hltz:¬ (k:Int)<(len:Int):=by omega
      obtain rfl:k=len:=by omega
      have hgd:=HG.out
      rw [List.take_of_length_le (by have:=HLEN.out; omega)] at hgd
      have HF:Hid (zU w B p T ((zj T).map fun p=>(p.1,fR o.data.toList n.data.toList p.2)) wr):=⟨p,_,hgd,HRM.out,(fun _ e=>.inl e),fun y hy=>.inl (by obtain ⟨x,hx,e⟩:=YJ hy; exact ⟨x,hx,e⟩),(zm.of_below HB2.out _).next HT.out (fun i _ e=>.inr (.inr e))⟩
      clear hgd HG HT
      go_wp2
      go_ret
      exact ⟨rfl,HF.out⟩
   ·
    have e9:(if true=true then if n.data.toList≠o.data.toList∧yV (zj T) n.data.toList≠[] then (9:Int) else 0 else 10)=9:=by simp [h9,e]
    rw [e9,if_neg (by decide)]
    have hpos:0<(yV (zj T) n.data.toList).length:=List.length_pos_iff.2 h9
    clear e e9 h9
    generalize yV (zj T) n.data.toList=ln at *
    go_enter Tryz.func154,Tryz.ntmps154
    go_wp2_with fail
    with_reducible refine HN.out.mono ?_
    rintro e w7 ⟨rfl,hb⟩
    have HB7:=za (z8 HB0.out hb)
    have HON:=za (HOFN.out _ HB7.out)
    clear hb HN HOFN
    go_wp2_with fail
    with_reducible refine HON.out.mono ?_
    rintro e w8 ⟨v8,rfl,hr8,hb⟩
    obtain ⟨A8,c8,rfl⟩:=xA hr8
    have HB1:=za (z8 HB7.out hb)
    clear hb hr8 HON HOFO
    generalize ln.length=q at *
    have hposz:(q:Int) > 0:=by omega
    have hposd:decide ((q:Int) > 0)=true:=decide_eq_true hposz
    go_wp2
    go_ret
    exact ⟨rfl,zU.still HI.out HB1.out⟩

theorem Qo {V:Type}:∀ {a b:zL V},zA a→zA b→(∀ x,x∈a↔x∈b)→a=b
 | [],[],_,_,_=>rfl
 | [],y::s,_,_,h=>absurd ((h y).2 (by simp)) (by simp)
 | x::r,[],_,_,h=>absurd ((h x).1 (by simp)) (by simp)
 | x::r,y::s,ha,hb,h=>by
  obtain ⟨a1,a2⟩:=List.pairwise_cons.1 ha
  obtain ⟨b1,b2⟩:=List.pairwise_cons.1 hb
  have e:x=y:=by
   rcases List.mem_cons.1 ((h x).1 (by simp)) with e | hx
   ·
    exact e
   ·
    rcases List.mem_cons.1 ((h y).2 (by simp)) with e | hy
    ·
     exact e.symm
    ·
     exact absurd (b1 _ hx) (by rw [yq (a1 _ hy)]; exact Bool.noConfusion)
  subst e
  rw [Qo a2 b2 fun z=>?_]
  constructor
  ·
   intro hz
   rcases List.mem_cons.1 ((h z).1 (by simp [hz])) with e | h'
   ·
    subst e; exact absurd (a1 _ hz) (by rw [zD]; exact Bool.noConfusion)
   ·
    exact h'
  ·
   intro hz
   rcases List.mem_cons.1 ((h z).2 (by simp [hz])) with e | h'
   ·
    subst e; exact absurd (b1 _ hz) (by rw [zD]; exact Bool.noConfusion)
   ·
    exact h'
def XS (S' S:zw) (left:Lit→Bool):Prop:=zA S'∧∀ q,q∈S'↔q∈S∧left (.string q.1)=false
theorem XS.start (T:zF):XS [] (zj T) (Maps.has (uq Ve T)):=⟨List.Pairwise.nil,fun q=>by
 constructor
 ·
  intro h; cases h
 ·
  rintro ⟨hq,h⟩
  rw [Z7,← vI,xT.2 ⟨q,hq,rfl⟩] at h
  cases h⟩
theorem XS.step {S' S:zw} {left:Lit→Bool} (hr:zA S) (h:XS S' S left) {k:List UInt8} {l:zQ} (hk:(k,l)∈S):XS (zP S' k l) S (fun z=>left z && !z.sameKey (.string k)):=by
 refine ⟨yM h.1 k l,fun q=>?_⟩
 rw [yD,h.2]
 by_cases e:q.1=k
 ·
  constructor
  ·
   rintro (rfl | ⟨_,h'⟩)
   ·
    exact ⟨hk,by simp [Lit.sameKey]⟩
   ·
    exact absurd e h'
  ·
   rintro ⟨hq,_⟩
   exact .inl (YT hr hq hk e)
 ·
  constructor
  ·
   rintro (rfl | ⟨⟨hq,hl⟩,_⟩)
   ·
    exact absurd rfl e
   ·
    exact ⟨hq,by simp [hl]⟩
  ·
   rintro ⟨hq,hl⟩
   exact .inr ⟨⟨hq,by simpa [Lit.sameKey,e] using hl⟩,e⟩
theorem XS.end_ {S' S:zw} {left:Lit→Bool} (hr:zA S) (h:XS S' S left) (hl:∀ kl,left kl=false):S'=S :=
 Qo h.1 hr fun q=>by rw [h.2,hl]; simp
theorem V4 {w w':World} {P:Program} {k:TypeId} {R:Value→Option (DataW Unit×List MemPlace)} {b r n:Nat} {D:DataW Unit} {left:Lit→Bool} {cnt:Nat} {S:Nat→Prop} (h:w.ranges P k R b r n D left cnt) (ht:zm S w w') (hb:¬ S b) (hr:¬ S r):w'.ranges P k R b r n D left cnt:=by
 have h1:=h.owns.lt
 have h2:=h.lt
 obtain ⟨es,clock,since,seen,c0,hb',F,hs,hD,hr',rest⟩:=h
 exact ⟨es,clock,since,seen,c0,(ht.block b h1 hb).trans hb',F,hs,hD,(ht.block r h2 hr).trans hr',rest⟩
theorem QY {w:World} {P:Program} {k:TypeId} {R:Value→Option (DataW Unit×List MemPlace)} {b r n:Nat} {D:DataW Unit} {left:Lit→Bool} {cnt:Nat} (h:w.ranges P k R b r n D left cnt) :
  (∀ c T fr,w.heap[r]? ≠ some (.cells c T fr))∧∀ es cl,w.heap[r]? ≠ some (.map es cl):=by
 obtain ⟨es,clock,since,seen,c0,_,_,_,_,hr',_⟩:=h
 refine ⟨fun c T fr e=>?_,fun es cl e=>?_⟩
 ·
  rw [hr'] at e
  injection e with e
  cases e
 ·
  rw [hr'] at e
  injection e with e
  cases e
theorem Zt {w:World} {R:Value→Option (DataW Unit×List MemPlace)} {b n:Nat} {D:DataW Unit} (h:w.ownsMap Tryz.prog 9 R b n D):∃ es cl,w.heap[b]? = some (.map es cl):=by
 obtain ⟨es,clock,h1,_⟩:=h
 exact ⟨es,clock,h1⟩
theorem Q0 (b:Nat) (L:zQ) (w:World) (h:zW w b L):Calls Tryz.prog 229 #[.map (some b)] w fun e w'=>e=.returned (.map (some w.heap.size))∧zW w' w.heap.size L∧Below w.heap.size w w' :=
 (AnyW.maps_Clone_owns Tryz.clone10 9 _ b _ _ w h).mono fun _ _ ⟨he,h1,_,hb⟩=>⟨he,h1,hb⟩

def Q4 (w W:World) (B:Nat) (p:Option Nat) (T:zF):Prop:=zT W B p T∧w.heap.size≤B∧(∀ b,p=some b→w.heap.size≤b)∧∀ x∈T,w.heap.size≤x.2.1
def XV (S:zw) (w:World) (e:Ending) (w':World):Prop:=∃ b p T,e=.returned (.pointer (some ⟨b,0,none⟩))∧Q4 w w' b p T∧zj T=S∧Below w.heap.size w w'
theorem uL.new {w W W':World} {B b:Nat} {p:Option Nat} {T:zF} {k:List UInt8} {l:zQ} (h:uL W B p (zP T k (b,l)) W') (hn:Q4 w W B p T) (hw:w.heap.size≤W.heap.size) (hb:w.heap.size≤b):∃ p',Q4 w W' B p' (zP T k (b,l))∧zm (fun i=>i=B∨p=some i) W W':=by
 obtain ⟨p',hd,hp,ht⟩:=h
 obtain ⟨_,h1,h2,h3⟩:=hn
 refine ⟨p',⟨hd,h1,fun c e=>?_,fun x hx=>?_⟩,ht⟩
 ·
  rcases hp c e with e | e
  ·
   exact h2 c e
  ·
   exact Nat.le_trans hw e
 ·
  rcases yD.1 hx with rfl | ⟨hx,_⟩
  ·
   exact hb
  ·
   exact h3 x hx

set_option maxRecDepth 100000 in
theorem FN (B m:Nat) (T:zF) (w:World) (h:zT w B (some m) T) (hf:T.length≤1000) (hnm:∀ x∈T,x.1.length≤1000) :
  Calls Tryz.prog 166 #[.pointer (some ⟨B,0,none⟩)] w (XV (zj T) w):=by
 have HNEW:=za (fp w)
 have hb0:Below w.heap.size w (w.alloc (.cells #[.map none] 167)):=z7 (Below.refl _ _) _
 have h1:=h.later hb0
 have hc:=h1.cell
 have hown:=h1.map m rfl
 have hml:=h.mlt m rfl
 have HI:=za h
 have HNM:=za hnm
 have HW0:Hid (Q4 w (w.alloc (.cells #[.map none] 167)) w.heap.size none []):=⟨Xu w,Nat.le_refl _,(fun _ h=>nomatch h),(fun _ h=>nomatch h)⟩
 have HB0:=za hb0
 have hsz:Maps.size (uq Ve T)=T.length:=vz Ve T
 have hs1:(w.alloc (.cells #[.map none] 167)).heap.size=w.heap.size+1:=by simp
 have hrs:zA (zj T):=yN h.rise (xB T)
 have HRS:=za hrs
 obtain ⟨C,hC⟩:∃ C,C=w.heap.size:=⟨_,rfl⟩
 rw [← hC] at HNEW HW0 hs1
 obtain ⟨len,hlen⟩:∃ len,len=T.length:=⟨_,rfl⟩
 rw [← hlen] at hf hsz
 have HLN:=za hlen
 have HCC:=za hC
 clear h h1 hb0 hnm hrs hlen hC
 go_enter Tryz.func166,Tryz.ntmps166
 go_wp2_with fail
 with_reducible refine HNEW.out.mono ?_
 rintro e w1 ⟨rfl,rfl⟩
 generalize w.alloc (.cells #[.map none] 167)=w1 at *
 go_wp2_with (first
  | (at_range; refine wpList_range_own _ rfl _ 165 rfl 9 208 xI Tryz.underlying165 _ m _ _ rfl hown ?_; intro w0 hrg0 hg0 hs0)
  | go_in)
 go_frame
 rw [hsz,← HLN.out] at hrg0
 rw [hs1] at hrg0 hs0 ⊢
 have hb01:Below w1.heap.size w1 w0:=(Below.refl _ _).grown hg0 (Nat.le_refl _) (fun j hj=>by cases hj)
 have HN0:Hid (Q4 w w0 C none []):=⟨HW0.out.1.later hb01,HW0.out.2⟩
 have HBB:Hid (Below w.heap.size w w0):=z8 HB0.out hb01
 clear hg0 hs0 hown hsz hc hb01 HW0 HB0
 go_loopw [4] (fun _ wr=>∃ (left:Lit→Bool) (cnt:Nat) (p':Option Nat) (T':zF),Hid (wr.ranges Tryz.prog 9 R10 m (C+1) len (uq Ve T) left cnt)∧T'.length+cnt≤len ∧
   Hid (Q4 w wr C p' T')∧Hid (XS (zj T') (zj T) left)∧Hid (Below w.heap.size w wr))
  (fun _ wr=>wr.rangeLeft m (C+1))
 case atStart=>exact ⟨_,_,none,[],hrg0,by simp,HN0,XS.start T,HBB⟩
 case round =>
  obtain ⟨left,cnt,p',T',HRG,hcs,HNW,HC,HBW⟩:=hrel
  have hrg:=HRG.out
  go_wp2_with (first
   | (at_next; refine wpList_next_ranges _ rfl _ rfl 9 xI R10 encStr Value.map (fun key kl hk=>by obtain ⟨x,hx,_⟩:=Maps.keyOf_str Tryz.underlying9 hk; exact ⟨x,hx⟩) (fun v y hv=>by obtain ⟨c,rfl,_⟩:=Zr hv; exact ⟨c,rfl⟩) m (C+1) len _ _ _ rfl hrg ?_ ?_)
   | go_in)
  ·
   intro hc0 hl0
   have hend:=HC.out.end_ HRS.out hl0
   have HF:Hid (XV (zj T) w (.returned (.pointer (some ⟨C,0,none⟩))) wr):=⟨C,p',T',rfl,HNW.out,hend,HBW.out⟩
   clear hend hl0 hrg
   go_wp2
   go_ret
   exact HF.out
  ·
   intro x c kl yd yp w2 cnt2 hkey hlk hv hat hrg2 hlt hg2 hs2 hen
   obtain ⟨x',ex,rfl,_⟩:=Maps.keyOf_str Tryz.underlying9 hkey
   obtain rfl:x=x':=encStr_inj ex
   obtain ⟨q,hqT,rfl,hpe⟩:=Jo HI.out.rise hat
   obtain rfl:(some q.2.1)=c:=by
    obtain ⟨o,ho,hz⟩:=Zr hv
    have e1:c=o:=by injection ho
    have e2:ob10 (some q.2.1)=ob10 o:=hpe.trans hz
    rw [e1]; exact Yq e2
   have hit:=QY hrg
   have hrr:w.heap.size≤C+1:=by rw [← HCC.out]; omega
   have hnx2:Below w.heap.size w w2:=HBW.out.grown hg2 HBW.out.size (fun j hj=>by cases hj; exact hrr)
   have hgt:zm (fun i=>i=C+1) wr w2:=(zm.refl _ wr).grown hg2 (fun j hj _=>by cases hj; rfl)
   have hN2:Q4 w w2 C p' T':=by
    refine ⟨HNW.out.1.turns hgt (fun e=>?_) (fun b hb e=>?_) (fun x hx e=>?_),HNW.out.2⟩
    ·
     have:=HNW.out.1.blk
     rw [e] at this
     exact hit.1 _ _ _ this
    ·
     obtain ⟨es,cl,ho⟩:=Zt (HNW.out.1.map b hb)
     rw [e] at ho
     exact hit.2 _ _ ho
    ·
     obtain ⟨es,cl,ho⟩:=Zt (HNW.out.1.sets x hx)
     rw [e] at ho
     exact hit.2 _ _ ho
   have HLT:Hid (cnt2<wr.rangeLeft m (C+1)):=by rw [show wr.rangeLeft m (C+1)=cnt from hrg.left_eq]; exact hlt
   have hset:zW w2 q.2.1 q.2.2:=(HI.out.later hnx2).sets q hqT
   have hcl:=Q0 q.2.1 q.2.2 w2 hset
   have hkv:encStr q.1=.string (zI q.1):=rfl
   have hkl2:(zI q.1).size≤1000:=by rw [xF]; exact HNM.out q hqT
   have hln2:T'.length≤1000:=by omega
   have hcop:=HC.out.step HRS.out (k:=q.1) (l:=q.2.2) (List.mem_map.2 ⟨q,hqT,rfl⟩)
   have HPUT:Hid (∀ W,Below w2.heap.size w2 W→w2.heap.size<W.heap.size→zW W w2.heap.size q.2.2→Calls Tryz.prog 201 #[.pointer (some ⟨C,0,none⟩),.string (zI q.1),.map (some w2.heap.size)] W fun e w'=>e=.returned (.tuple #[]) ∧
     ∃ p3 T3,Hid (w'.ranges Tryz.prog 9 R10 m (C+1) len (uq Ve T) (fun z=>left z && !z.sameKey (.string q.1)) cnt2)∧T3.length+cnt2≤len∧Hid (Q4 w w' C p3 T3)∧Hid (XS (zj T3) (zj T) (fun z=>left z && !z.sameKey (.string q.1)))∧Hid (Below w.heap.size w w')):=fun W hb hlt2 hsW=>by
    have hNW:Q4 w W C p' T':=⟨hN2.1.later hb,hN2.2⟩
    refine (YZ C w2.heap.size p' T' q.2.2 (zI q.1) W hNW.1 hsW (fun x hx e=>?_) (fun e=>?_) hln2 hkl2).mono fun e w' ⟨he,hp⟩=>?_
    ·
     have:=hN2.1.slt x hx; omega
    ·
     have:=hN2.1.mlt _ e; omega
    ·
     obtain ⟨p3,hn3,ht3⟩:=hp.new hNW (Nat.le_trans hnx2.size hb.size) hnx2.size
     rw [zy] at hn3
     have hrgW:=qe hrg2 hb
     have hitW:=QY hrgW
     refine ⟨he,p3,_,V4 hrgW ht3 (fun e=>?_) (fun e=>?_),?_,hn3,(by show XS _ _ _; rw [X1]; exact hcop),?_⟩
     ·
      rcases e with e | e
      ·
       have:=hNW.2.1; omega
      ·
       have:=hNW.2.2.1 _ e; omega
     ·
      rcases e with e | e
      ·
       have:=hNW.1.blk
       rw [← e] at this
       exact hitW.1 _ _ _ this
      ·
       obtain ⟨es,cl,ho⟩:=Zt (hNW.1.map _ e)
       exact hitW.2 _ _ ho
     ·
      have:=Zs T' q.1 (w2.heap.size,q.2.2); omega
     ·
      exact (z8 hnx2 hb).trans (zm.below_at ht3 (Nat.le_trans hnx2.size hb.size) (by
       rintro i (e | e)
       ·
        rw [e]; exact hNW.2.1
       ·
        exact hNW.2.2.1 i e))
   have HCL:=za hcl
   rw [hkv] at hen ⊢
   clear hs2 hnx2 hN2 hset hcl hkl2 hln2 hcop hat hv hpe hkey hg2 HRG hrg HNW HC hit hgt hlk hqT hkv hlt hrg2
   generalize zI q.1=kv at *
   generalize q.2.1=qb at *
   go_wp2_with fail
   with_reducible refine HCL.out.mono ?_
   rintro e w3 ⟨rfl,hs3,hb3⟩
   have HP3:=za (HPUT.out w3 hb3 (World.ownsMap.lt hs3) hs3)
   clear hs3 hb3 HCL HPUT
   go_wp2_with fail
   with_reducible refine HP3.out.mono ?_
   rintro e w4 ⟨rfl,p4,T4,HR4,hc4,HN4,HC4,HB4⟩
   clear HP3
   go_wp2
   go_roundw
   case rel=>exact ⟨_,cnt2,p4,T4,HR4,hc4,HN4,HC4,HB4⟩
   case measure=>rw [HR4.out.left_eq]; exact HLT.out
set_option maxRecDepth 100000 in
theorem FO (B:Nat) (w:World) (h:zT w B none []):Calls Tryz.prog 166 #[.pointer (some ⟨B,0,none⟩)] w (XV [] w):=by
 have HNEW:=za (fp w)
 have hb0:Below w.heap.size w (w.alloc (.cells #[.map none] 167)):=z7 (Below.refl _ _) _
 have hc:=(h.later hb0).cell
 have hrg:=run_range_nilMap (P:=Tryz.prog) (w.alloc (.cells #[.map none] 167)) 165 9 208 Tryz.underlying165
 have hnx:∀ ty,(Instr.next (.pointer (some ⟨(w.alloc (.cells #[.map none] 167)).heap.size,0,none⟩)) false ty).run Tryz.prog ((w.alloc (.cells #[.map none] 167)).alloc (.mapIter none 0 #[] 0))=_:=fun ty=>run_next_nilMap _ ty 0 0 #[]
 have e1:(w.alloc (.cells #[.map none] 167)).heap.size=w.heap.size+1:=by simp
 rw [e1] at hrg hnx
 have HF:Hid (XV [] w (.returned (.pointer (some ⟨w.heap.size,0,none⟩))) ((w.alloc (.cells #[.map none] 167)).alloc (.mapIter none 0 #[] 0))):=by
  have hb1:Below (w.alloc (.cells #[.map none] 167)).heap.size (w.alloc (.cells #[.map none] 167)) ((w.alloc (.cells #[.map none] 167)).alloc (.mapIter none 0 #[] 0)):=z7 (Below.refl _ _) _
  exact ⟨_,none,[],rfl,⟨(Xu w).later hb1,Nat.le_refl _,(fun _ h=>nomatch h),(fun _ h=>nomatch h)⟩,rfl,z8 hb0 hb1⟩
 clear h hb0 e1
 go_enter Tryz.func166,Tryz.ntmps166
 go_wp2_with fail
 with_reducible refine HNEW.out.mono ?_
 rintro e w1 ⟨rfl,rfl⟩
 go_wp2
 refine wp_loop_rounds 1 ?_
 rw [rounds_succ]
 go_wp2
 go_ret
 exact HF.out
theorem Jn (B:Nat) (p:Option Nat) (T:zF) (w:World) (h:zT w B p T) (hf:T.length≤1000) (hnm:∀ x∈T,x.1.length≤1000) :
  Calls Tryz.prog 166 #[.pointer (some ⟨B,0,none⟩)] w (XV (zj T) w):=by
 cases p with
 | none =>
  have:=h.nil rfl
  subst this
  exact FO B w h
 | some m=>exact FN B m T w h hf hnm
end Go.Proofs.YthmomkjingcbiaaGreatDoor
namespace Go.Proofs.YthmomkjingcbiaaGreatDoor
open Go.ChangeShapes Go.WideShapes Go.ChangeAt Go.RowKit Go.Deep

section
variable {H:Type} {enc:TypeId×Value→H} {W:World} {base:Nat} {sp:Nat→Bool} {hd:Bool} {fuel:Nat}
end
end Go.Proofs.YthmomkjingcbiaaGreatDoor
namespace Go.Proofs.YthmomkjingcbiaaGreatDoor
open Go.RowKit Go.Maps

def qj (W w':World):Prop:=∀ (k:Nat) (c:Array Value) (T:TypeId) (fr:Nat×Nat),W.heap[k]? = some (.cells c T fr)→T≠167→w'.heap[k]? = some (.cells c T fr)
theorem qj.of_below {W w':World} (hb:Below W.heap.size W w'):qj W w':=fun k _ _ _ h _=>(hb.block k (Array.getElem?_eq_some_iff.1 h).1).trans h
theorem qj.trans {a b c:World} (h:qj a b) (k:qj b c):qj a c:=fun i x T fr hi hT=>k i x T fr (h i x T fr hi hT) hT
theorem zU.keeps {W w':World} {B:Nat} {p:Option Nat} {T:zF} {S':zw} (hd:zT W B p T) (hg:zU W B p T S' w'):qj W w':=by
 obtain ⟨_,_,_,_,_,_,ht⟩:=hg
 intro k c T fr hk hT
 refine (ht.block k (Array.getElem?_eq_some_iff.1 hk).1 ?_).trans hk
 rintro (rfl | e | ⟨x,hx,rfl⟩)
 ·
  rw [hd.blk] at hk
  injection hk with hk
  injection hk with _ h
  exact hT h.symm
 ·
  exact ye (hd.map k e) hk rfl
 ·
  exact ye (hd.sets x hx) hk rfl

section
variable {w0 W W':World} {B k:Nat} {S:zw}

end

def Qu (m:vc):List Value:=[.string (zI m.1),.string (zI m.2)]
theorem Fc (M:List vc):(M.flatMap Qu).length=M.length * 2:=by
 induction M with
 | nil=>rfl
 | cons x M ih=>rw [List.flatMap_cons,List.length_append,ih]; simp [Qu]; omega
theorem pm10_at (M:List vc) (j i:Nat) (hj:j<M.length) (hi:i<2):(M.flatMap Qu)[j * 2+i]? = (Qu M[j])[i]? := by
 induction M generalizing j with
 | nil=>exact absurd hj (Nat.not_lt_zero _)
 | cons q M ih =>
  rw [List.flatMap_cons]
  cases j with
  | zero =>
   rw [List.getElem?_append_left (by simp [Qu]; omega)]
   simp
  | succ j =>
   rw [List.getElem?_append_right (by simp [Qu]; omega)]
   have:=ih j (by simpa using hj)
   rw [show (j+1) * 2+i - (Qu q).length=j * 2+i by simp [Qu]; omega,this]
   simp
theorem infoMem10:(Tryz.prog.info? 225).map (fun i=>(i.zero,i.size,i.bytes))=some (some (.agg #[.string ⟨#[]⟩,.string ⟨#[]⟩]),2,32):=by kernel_rfl
def NmR (w:World) (v:Value) (N:List (List UInt8)):Prop:=w.ownsRow 0 9 1 v N.length (N.map encStr)
def MbR (w:World) (v:Value) (M:List vc):Prop:=w.ownsRow 0 225 2 v M.length (M.flatMap Qu)
theorem jn {w w':World} {b:Nat} {e size n:Nat} {v:Value} {xs:List Value} (h:w.ownsRow b e size v n xs) (hk:qj w w') (he:e≠167):w'.ownsRow b e size v n xs:=by
 refine ⟨h.1,?_⟩
 rcases h.2 with hn | ⟨g,cap,cur,e1,h0,hg,hr⟩
 ·
  exact .inl hn
 ·
  exact .inr ⟨g,cap,cur,e1,h0,hk g _ _ _ hg he,hr⟩
theorem own_up10 {w:World} {b:Nat} {e size n:Nat} {v:Value} {xs:List Value} (h:w.ownsRow 0 e size v n xs) (hb:∀ j,v.ownBlock=some j→b≤j):w.ownsRow b e size v n xs:=by
 refine ⟨h.1,?_⟩
 rcases h.2 with hn | ⟨g,cap,cur,e1,h0,hg,hr⟩
 ·
  exact .inl hn
 ·
  exact .inr ⟨g,cap,cur,e1,hb g (by rw [e1]; rfl),hg,hr⟩
section
variable {w w':World} {v:Value} {N:List (List UInt8)} {M:List vc}
theorem NmR.keeps (h:NmR w v N) (hk:qj w w'):NmR w' v N:=jn h hk (by decide)
theorem MbR.keeps (h:MbR w v M) (hk:qj w w'):MbR w' v M:=jn h hk (by decide)
theorem NmR.later (h:NmR w v N) (hb:Below w.heap.size w w'):NmR w' v N:=xt h hb
theorem MbR.later (h:MbR w v M) (hb:Below w.heap.size w w'):MbR w' v M:=xt h hb
theorem NmR.of {b:Nat} (h:w.ownsRow b 9 1 v N.length (N.map encStr)):NmR w v N:=zC h (Nat.zero_le _)
theorem MbR.of {b:Nat} (h:w.ownsRow b 225 2 v M.length (M.flatMap Qu)):MbR w v M:=zC h (Nat.zero_le _)
theorem NmR.nil (w:World):NmR w (.slice none 0 0) []:=World.ownsRow_nil _ _ _ _
theorem MbR.nil (w:World):MbR w (.slice none 0 0) []:=World.ownsRow_nil _ _ _ _
theorem NmR.at_ (h:NmR w v N) {k:Nat} (hk:k<N.length):∃ g cap,v=.slice (some ⟨g,0,none⟩) N.length cap∧w.cell? ⟨g,k,none⟩=some (.string (zI N[k])) :=
 fM h (zm.refl (fun _=>False) w) (fun _ _ _ _ _ _ f=>f) hk
theorem MbR.at_ (h:MbR w v M) {k:Nat} (hk:k<M.length):∃ g cap,v=.slice (some ⟨g,0,none⟩) M.length cap∧w.cell? ⟨g,k * 2,none⟩=some (.string (zI M[k].1))∧w.cell? ⟨g,k * 2+1,none⟩=some (.string (zI M[k].2)):=by
 rcases h.2 with ⟨rfl,hz⟩ | ⟨g,cap,cur,rfl,hb,hg,r1,r2,r3,r4⟩
 ·
  omega
 ·
  refine ⟨g,cap,rfl,?_,?_⟩
  ·
   have h2:(List.take (M.length * 2) cur.toList)[k * 2]? = some (.string (zI M[k].1)):=by rw [r4]; have:=pm10_at M k 0 hk (by decide); simpa [Qu] using this
   rw [List.getElem?_take,if_pos (by omega)] at h2
   simpa [World.cell?,hg] using h2
  ·
   have h2:(List.take (M.length * 2) cur.toList)[k * 2+1]? = some (.string (zI M[k].2)):=by rw [r4]; have:=pm10_at M k 1 hk (by decide); simpa [Qu] using this
   rw [List.getElem?_take,if_pos (by omega)] at h2
   simpa [World.cell?,hg] using h2
theorem NmR.shape (h:NmR w v N):∃ A c,v=.slice A N.length c:=xA h
theorem MbR.shape (h:MbR w v M):∃ A c,v=.slice A M.length c:=by
 rcases h.2 with ⟨rfl,hz⟩ | ⟨g,cap,cur,rfl,_⟩
 ·
  exact ⟨none,0,by rw [hz]⟩
 ·
  exact ⟨_,cap,rfl⟩
theorem NmR.src (h:NmR w v N):Src Tryz.prog 1 45 v N.length (N.map encStr) w:=by
 rcases h.2 with ⟨rfl,hz⟩ | ⟨g,cap,cur,rfl,hb,hg,r1,r2,r3,r4⟩
 ·
  have:N=[]:=List.eq_nil_of_length_eq_zero hz
  subst this
  exact Src.ofNil w Tryz.underlying45 0
 ·
  refine Src.ofSlice w Tryz.underlying45 _ _ _ _ h.1 (fun j u hu=>?_) (fun u hu=>by obtain ⟨x,_,rfl⟩:=List.mem_map.1 hu; rfl)
  have hj:j<N.length:=by have:=(List.getElem?_eq_some_iff.1 hu).1; simpa using this
  have h2:(List.take (N.length * 1) cur.toList)[j]? = some u:=by rw [r4]; exact hu
  rw [List.getElem?_take,if_pos (by omega)] at h2
  rw [Addr.add_lit,Nat.zero_add]
  simpa [World.cell?,hg] using h2
theorem MbR.src (h:MbR w v M):Src Tryz.prog 2 176 v M.length (M.flatMap Qu) w:=by
 rcases h.2 with ⟨rfl,hz⟩ | ⟨g,cap,cur,rfl,hb,hg,r1,r2,r3,r4⟩
 ·
  have:M=[]:=List.eq_nil_of_length_eq_zero hz
  subst this
  exact Src.ofNil w Tryz.underlying176 0
 ·
  refine Src.ofSlice w Tryz.underlying176 _ _ _ _ h.1 (fun j u hu=>?_) (fun u hu=>?_)
  ·
   have hj:j<M.length * 2:=by have:=(List.getElem?_eq_some_iff.1 hu).1; rwa [Fc] at this
   have h2:(List.take (M.length * 2) cur.toList)[j]? = some u:=by rw [r4]; exact hu
   rw [List.getElem?_take,if_pos (by omega)] at h2
   rw [Addr.add_lit,Nat.zero_add]
   simpa [World.cell?,hg] using h2
  ·
   obtain ⟨m,_,hm⟩:=List.mem_flatMap.1 hu
   simp only [Qu,List.mem_cons,List.not_mem_nil,or_false] at hm
   rcases hm with rfl | rfl <;> rfl
end
theorem JK {a:List UInt8} {s:ByteArray} (h:a≠s.data.toList):((zI a).toList == s.toList)=false:=by
 rw [Lib.toList_data,Lib.toList_data,zy]; simpa using h
theorem JL {a:List UInt8} {s:ByteArray} (h:a=s.data.toList):zI a=s:=by rw [h,xo]
theorem Zy:∀ a b:List UInt8,Op.bytesLess a b=bytesBefore a b
 | [],[]=>by simp [Op.bytesLess,bytesBefore]
 | [],_::_=>by simp [Op.bytesLess,bytesBefore]
 | _::_,[]=>by simp [Op.bytesLess,bytesBefore]
 | a::r,b::s=>by simp [Op.bytesLess,bytesBefore,Zy r s]

set_option maxRecDepth 100000 in
theorem jk (v:Value) (N:List (List UInt8)) (s:ByteArray) (w:World) (h12:N.length≤1000) (hu:NmR w v N) :
  Calls Tryz.prog 225 #[v,.string s] w (zY (vl N s.data.toList) w):=by
 obtain ⟨A,c,rfl⟩:=hu.shape
 have HA:=za hu
 clear hu
 obtain ⟨n,hn⟩:∃ n,n=N.length:=⟨_,rfl⟩
 rw [← hn] at HA h12 ⊢
 have HL:=za hn
 clear hn
 obtain ⟨r,hr⟩:∃ r,r=vl N s.data.toList:=⟨_,rfl⟩
 rw [← hr]
 have HRS:=za hr
 clear hr
 go_enter Tryz.func225,Tryz.ntmps225
 go_wp2
 go_loopg [9] n (fun gg s9 wr=>∃ k:Nat,k≤n∧n - k≤gg∧s9=.int .i64 k∧Hid (Below w.heap.size w wr)∧Hid (∀ j (h:j<N.length),j<k→N[j]≠s.data.toList))
 case atStart=>exact ⟨0,Nat.zero_le _,by omega,rfl,Below.refl _ _,fun j _ hj=>absurd hj (Nat.not_lt_zero _)⟩
 case round =>
  obtain ⟨k,hk,hg,rfl,HW,A0⟩:=hrel
  by_cases hlt:k<n
  ·
   have hltz:(k:Int)<(n:Int):=by omega
   have hkl:k<N.length:=HL.out ▸ hlt
   obtain ⟨g,cx,e2,x0⟩:=(HA.out.later HW.out).at_ hkl
   injection e2 with e2 e2n e2c
   subst e2
   clear e2n e2c
   by_cases he:N[k]=s.data.toList
   ·
    have hs:zI N[k]=s:=JL he
    have HGE:Hid (r=true):=HRS.out.trans (ve.2 (he ▸ List.getElem_mem hkl))
    have n2:(s.toList == s.toList)=true:=by simp
    rw [hs] at x0
    clear he hs A0
    go_wp2
    go_ret
    exact ⟨by rw [HGE.out]; rfl,HW.out⟩
   ·
    have n2:=JK he
    have n1:¬ (zI N[k]).toList=s.toList:=by simpa using n2
    have HX:Hid (∀ j (h:j<N.length),j<k+1→N[j]≠s.data.toList):=fun j h hj=>by
     by_cases e:j=k
     ·
      subst e; exact he
     ·
      exact A0.out j h (by omega)
    clear he A0
    generalize zI N[k]=nm at *
    go_wp2
    go_roundg (n - (k+1))
    case measure=>omega
    case rel=>exact ⟨k+1,by omega,by omega,by go_num,HW,HX⟩
  ·
   have hltz:¬ (k:Int)<(n:Int):=by omega
   obtain rfl:k=n:=by omega
   have HGE:Hid (r=false):=HRS.out.trans (ZD.2 fun hm=>by
    obtain ⟨j,hj,e⟩:=List.getElem_of_mem hm
    exact A0.out j hj (by have:=HL.out; omega) e)
   clear A0
   go_wp2
   go_ret
   exact ⟨by rw [HGE.out]; rfl,HW.out⟩

def uZ (W:World) (b:Nat) (v1 v2:Value):Prop:=W.heap[b]? = some (.cells #[v1,v2] 178 (0,0))
section
variable {W W':World} {b:Nat} {v1 v2:Value}
theorem uZ.c0 (h:uZ W b v1 v2):W.cell? ⟨b,0,none⟩=some v1:=by simp [World.cell?,show W.heap[b]? = _ from h]
theorem uZ.c1 (h:uZ W b v1 v2):W.cell? ⟨b,1,none⟩=some v2:=by simp [World.cell?,show W.heap[b]? = _ from h]
theorem uZ.f0 (h:uZ W b v1 v2):W.frozen? ⟨b,0,none⟩=false:=by simp [World.frozen?,show W.heap[b]? = _ from h]
theorem uZ.f1 (h:uZ W b v1 v2):W.frozen? ⟨b,1,none⟩=false:=by simp [World.frozen?,show W.heap[b]? = _ from h]
theorem uZ.lt (h:uZ W b v1 v2):b<W.heap.size:=(Array.getElem?_eq_some_iff.1 h).1
theorem uZ.later (h:uZ W b v1 v2) (hb:Below W.heap.size W W'):uZ W' b v1 v2:=(hb.block b h.lt).trans h
theorem uZ.turns {S:Nat→Prop} (h:uZ W b v1 v2) (ht:zm S W W') (hS:¬ S b):uZ W' b v1 v2:=(ht.block b h.lt hS).trans h
theorem qV (W:World) (v1 v2:Value):uZ (W.alloc (.cells #[v1,v2] 178)) W.heap.size v1 v2:=(MapKept.heap_alloc W _).1
end
theorem Z4 {α:Type} (p:α→Bool) (L:List α) {k:Nat} (hk:k<L.length):(L.take (k+1)).filter p=(L.take k).filter p++if p L[k] then [L[k]] else []:=by
 rw [List.take_succ_eq_append_getElem hk,List.filter_append]
 cases h:p L[k] <;> simp [h]
theorem Vj {w1 wr w2:World} {e:TypeId} {size n:Nat} {v:Value} {xs:List Value} {o:Obj} (hb:Below w1.heap.size w1 wr) (hu:wr.ownsRow w1.heap.size e size v n xs) (hg:(wr.alloc o).grownBy w2 v.ownBlock):Below w1.heap.size w1 w2 :=
 (z8 hb (z7 (Below.refl _ _) _)).grown hg (by have:=hb.size; simp; omega) (fun j hj=>(hu.lt j hj).1)
theorem vx (s:ByteArray):Proofs.encStr s.data.toList=.string s:=by
 show Value.string ⟨s.data.toList.toArray⟩=_
 simp
theorem eqs10 {a b:ByteArray} (h:a.data.toList=b.data.toList):(a.toList == b.toList)=true∧a.toList=b.toList:=by
 have:a.toList=b.toList:=by rw [Lib.toList_data,Lib.toList_data]; exact h
 exact ⟨by simpa using this,this⟩
theorem nes10 {a b:ByteArray} (h:¬ a.data.toList=b.data.toList):(a.toList == b.toList)=false∧¬ a.toList=b.toList:=by
 have:¬ a.toList=b.toList:=by rw [Lib.toList_data,Lib.toList_data]; exact h
 exact ⟨by simpa using this,this⟩

theorem VL {s:List UInt8}:∀ {D:List (List UInt8)},(∀ y∈D,bytesBefore s y=false)→Xn s D=D++[s]
 | [],_=>rfl
 | y::r,h=>by
  unfold Xn
  rw [h y (by simp),VL (fun z hz=>h z (by simp [hz]))]
  simp
theorem Xl {s v:List UInt8}:∀ {D:List (List UInt8)},(∃ y∈D,bytesBefore s y=true)→Xn s (D++[v])=Xn s D++[v]
 | [],h=>by obtain ⟨_,h,_⟩:=h; cases h
 | y::r,h=>by
  show Xn s (y::(r++[v]))=_
  unfold Xn
  cases hb:bytesBefore s y
  ·
   have:∃ z∈r,bytesBefore s z=true:=by
    obtain ⟨z,hz,hzb⟩:=h
    rcases List.mem_cons.1 hz with rfl | hz
    ·
     rw [hb] at hzb; cases hzb
    ·
     exact ⟨z,hz,hzb⟩
   simp [Xl this]
  ·
   simp
theorem Xm {s v:List UInt8}:∀ {D:List (List UInt8)},(∀ y∈D,bytesBefore s y=false)→bytesBefore s v=true→Xn s (D++[v])=D++[s,v]
 | [],_,hv=>by simp [Xn,hv]
 | y::r,h,hv=>by
  show Xn s (y::(r++[v]))=_
  unfold Xn
  rw [h y (by simp),Xm (fun z hz=>h z (by simp [hz])) hv]
  simp
def uJ (o:List (List UInt8)) (s:List UInt8) (k:Nat):Bool:=(o.take k).any fun t=>bytesBefore s t
def uQ (o:List (List UInt8)) (s:List UInt8) (k:Nat):List (List UInt8):=if uJ o s k then Xn s (o.take k) else o.take k
theorem XA {o:List (List UInt8)} {s:List UInt8} {k:Nat} (hk:k<o.length):uJ o s (k+1)=(uJ o s k || bytesBefore s o[k]):=by
 unfold uJ
 rw [List.take_succ_eq_append_getElem hk,List.any_append]
 simp
theorem out10_step {o:List (List UInt8)} {s:List UInt8} {k:Nat} (hk:k<o.length) :
  (uJ o s k=false→bytesBefore s o[k]=true→uQ o s (k+1)=uQ o s k++[s]++[o[k]]) ∧
  (uJ o s k=false→bytesBefore s o[k]=false→uQ o s (k+1)=uQ o s k++[o[k]]) ∧
  (uJ o s k=true→uQ o s (k+1)=uQ o s k++[o[k]]):=by
 have hst:=XA (s:=s) hk
 have hno:uJ o s k=false→∀ y∈o.take k,bytesBefore s y=false:=fun hd y hy=>by
  unfold uJ at hd
  simpa using List.any_eq_false.1 hd y hy
 refine ⟨fun hd hb=>?_,fun hd hb=>?_,fun hd=>?_⟩
 ·
  unfold uQ
  rw [hst,hd,hb,List.take_succ_eq_append_getElem hk]
  simp only [Bool.false_or,if_true,Bool.false_eq_true,if_false]
  rw [Xm (hno hd) hb]
  simp only [List.append_assoc,List.cons_append,List.nil_append]
 ·
  unfold uQ
  rw [hst,hd,hb,List.take_succ_eq_append_getElem hk]
  simp
 ·
  obtain ⟨y,hy,hyb⟩:=List.any_eq_true.1 (show (o.take k).any (fun t=>bytesBefore s t)=true from hd)
  unfold uQ
  rw [hst,hd,List.take_succ_eq_append_getElem hk]
  simp only [Bool.true_or,if_true]
  exact Xl ⟨y,hy,hyb⟩
theorem out10_end (o:List (List UInt8)) (s:List UInt8):Xn s o=if uJ o s o.length then uQ o s o.length else uQ o s o.length++[s]:=by
 unfold uQ
 rw [List.take_length]
 cases hd:uJ o s o.length
 ·
  simp only [Bool.false_eq_true,if_false]
  refine VL fun y hy=>?_
  unfold uJ at hd
  rw [List.take_length] at hd
  simpa using List.any_eq_false.1 hd y hy
 ·
  simp
theorem Qy (o:List (List UInt8)) (s:List UInt8) (k:Nat):(uQ o s k).length≤o.length+1:=by
 have h1:(o.take k).length≤o.length:=by simp; omega
 unfold uQ
 split
 ·
  rw [fq]; omega
 ·
  omega

set_option maxRecDepth 100000 in
theorem jf (v:Value) (N:List (List UInt8)) (w:World) (h12:N.length≤999) (hu:NmR w v N) :
  Calls Tryz.prog 161 #[v] w (yr (xu N) w):=by
 have hnot:∀ (x:Bool) (w:World),(Op.unary .not (.bool x)).run Tryz.prog w=.ok (.bool (!x)) w:=fun _ _=>rfl
 obtain ⟨i0,hi,hz0,hz1,hz2⟩:=info_parts jq
 obtain ⟨A,c,rfl⟩:=hu.shape
 have HA:=za hu
 clear hu
 obtain ⟨n,hn⟩:∃ n,n=N.length:=⟨_,rfl⟩
 rw [← hn] at HA h12 ⊢
 have HL:=za hn
 clear hn
 have HHS:Hid (∀ (v:Value) (O:List (List UInt8)) (s:ByteArray) (W:World),O.length≤1000→NmR W v O→Calls Tryz.prog 225 #[v,.string s] W (zY (vl O s.data.toList) W)):=jk
 go_enter Tryz.func161,Tryz.ntmps161
 go_wp2
 go_loopg [3,12] n (fun gg s3 s12 wr=>∃ k:Nat,k≤n∧n - k≤gg∧s12=.int .i64 k∧Hid (Below w.heap.size w wr)∧Hid (wr.ownsRow w.heap.size 9 1 s3 (xu (N.take k)).length ((xu (N.take k)).map encStr)))
 case atStart=>exact ⟨0,Nat.zero_le _,by omega,rfl,Below.refl _ _,World.ownsRow_nil _ _ _ _⟩
 case round =>
  obtain ⟨k,hk,hg,rfl,HWO,HO⟩:=hrel
  have hol:(xu (N.take k)).length≤999:=Nat.le_trans (sortT_le _) (by simp; omega)
  by_cases hlt:k<n
  ·
   have hltz:(k:Int)<(n:Int):=by omega
   have hkl:k<N.length:=HL.out ▸ hlt
   obtain ⟨gb,cx,e2,x0⟩:=(HA.out.later HWO.out).at_ hkl
   injection e2 with e2 e2n e2c
   subst e2
   clear e2n e2c
   have HST:Hid (xu (N.take (k+1))=yU (xu (N.take k)) N[k]):=sortT_take hkl
   have HTL:Hid ((zI N[k]).data.toList=N[k]):=zy _
   have HOR:Hid (NmR wr u3 (xu (N.take k))):=NmR.of HO.out
   obtain ⟨o,ho⟩:∃ o,o=xu (N.take k):=⟨_,rfl⟩
   rw [← ho] at HST HO HOR hol
   clear ho
   generalize hNk:N[k]=qk at *
   generalize zI qk=ss at *
   clear hNk
   have HH:=za (HHS.out u3 o ss wr (by omega) HOR.out)
   obtain ⟨A3,c3,rfl⟩:=HOR.out.shape
   cases hh:vl o ss.data.toList with
   | true =>
    rw [hh] at HH
    have HE:Hid (xu (N.take (k+1))=o):=by
     show _=_
     rw [HST.out,← HTL.out]
     unfold yU
     rw [if_pos (ve.1 hh)]
    clear hh
    go_wp2_with fail
    with_reducible refine HH.out.mono ?_
    rintro e w2 ⟨rfl,hb⟩
    have HB:=za (z8 HWO.out hb)
    have HO2:=za (xt HO.out hb)
    clear hb HH
    go_wp2
    go_roundg (n - (k+1))
    case measure=>omega
    case rel=>exact ⟨k+1,by omega,by omega,by go_num,HB,(show Hid _ from by rw [HE.out]; exact HO2.out)⟩
   | false =>
    rw [hh] at HH
    have HE:Hid (xu (N.take (k+1))=Xn ss.data.toList o):=by
     show _=_
     rw [HST.out,← HTL.out]
     unfold yU
     rw [if_neg (ZD.1 hh)]
    clear hh
    go_wp2_with fail
    with_reducible refine HH.out.mono ?_
    rintro e wi ⟨rfl,hb⟩
    have HBI:=za (z8 HWO.out hb)
    have HOI:=za (HOR.out.later hb)
    clear hb HH
    obtain ⟨m,hm⟩:∃ m,m=o.length:=⟨_,rfl⟩
    rw [← hm] at HOI hol ⊢
    have HM:=za hm
    clear hm
    go_wp2
    go_loopg [6,7,21] m (fun gg s6 s7 s21 wr=>∃ j:Nat,j≤m∧m - j≤gg∧s21=.int .i64 j∧s7=.bool (uJ o ss.data.toList j)∧Hid (Below wi.heap.size wi wr)∧Hid (wr.ownsRow wi.heap.size 9 1 s6 (uQ o ss.data.toList j).length ((uQ o ss.data.toList j).map encStr)))
    case atStart=>exact ⟨0,Nat.zero_le _,by omega,rfl,rfl,Below.refl _ _,World.ownsRow_nil _ _ _ _⟩
    case round =>
     obtain ⟨j,hj,hg,rfl,rfl,HW,HU⟩:=hrel
     have hlen:=Qy o ss.data.toList j
     rw [← HM.out] at hlen
     by_cases hlt2:j<m
     ·
      have hltz2:(j:Int)<(m:Int):=by omega
      have hjl:j<o.length:=HM.out ▸ hlt2
      obtain ⟨gb3,cx3,e3,y0⟩:=(HOI.out.later HW.out).at_ hjl
      injection e3 with e3 e3n e3c
      subst e3
      clear e3n e3c
      obtain ⟨q1,q2,q3⟩:=out10_step (s:=ss.data.toList) hjl
      have hst:=XA (s:=ss.data.toList) hjl
      have hTL:(zI o[j]).data.toList=o[j]:=zy _
      have hEK:encStr o[j]=.string (zI o[j]):=rfl
      rw [← hTL] at hst
      generalize hOj:o[j]=oj at *
      generalize zI oj=nm at *
      have HQ1:=za q1
      have HQ2:=za q2
      have HQ3:=za q3
      have HST2:=za hst
      have HTL2:=za hTL
      have HEK:=za hEK
      clear q1 q2 q3 hst hTL hOj hEK
      generalize hdn:uJ o ss.data.toList j=dn at *
      clear hdn
      cases dn with
      | true =>
       have HE1:=za (HQ3.out rfl)
       clear HQ1 HQ2 HQ3
       go_wp2_with (first
       | (at_builtin; refine wpList_append_own _ rfl _ _ 45 rfl wi.heap.size 9 i0 (.string ⟨#[]⟩) 1 16 Tryz.underlying45 hi hz0 hz1 hz2 rfl (by decide) _ _ _ rfl (HU.out.alloc _) ⟨wr.heap.size,0,none⟩ 1 1 [.string nm] rfl rfl (fun j u hu=>by rw [Addr.add_lit,Nat.zero_add,World.cell?_alloc_at _ _ _ _ (by simp)]; simpa using hu) (by simp [Value.oneCell']) (by unfold maxLen; omega) (by omega) (by have:=HW.out.size; simp; omega) ?_; intro v2 w2 hown' hgrow _; have HOw2:=za hown'; have HGw2:=za hgrow; clear hown' hgrow)
       | fail)
       have ho:=HOw2.out
       rw [← HEK.out] at ho
       have R1:=za (Vj HW.out HU.out HGw2.out)
       have R2:Hid (w2.ownsRow wi.heap.size 9 1 v2 (uQ o ss.data.toList (j+1)).length ((uQ o ss.data.toList (j+1)).map encStr)):=by
        show World.ownsRow _ _ _ _ _ _ _
        rw [HE1.out]
        simpa using ho
       clear ho
       go_roundg (m - (j+1))
       case measure=>omega
       case rel=>exact ⟨j+1,by omega,by omega,by go_num,by rw [HST2.out]; rfl,R1,R2⟩
      | false =>
       cases hbb:bytesBefore ss.data.toList nm.data.toList with
       | true =>
        have l1:Op.bytesLess ss.toList nm.toList=true:=by rw [Lib.toList_data,Lib.toList_data,Zy]; exact hbb
        have HE1:=za (HQ1.out rfl (by rw [← HTL2.out]; exact hbb))
        have HBB:=za hbb
        clear hbb HQ1 HQ2 HQ3
        go_wp2_with (first
        | (at_builtin; refine wpList_append_own _ rfl _ _ 45 rfl wi.heap.size 9 i0 (.string ⟨#[]⟩) 1 16 Tryz.underlying45 hi hz0 hz1 hz2 rfl (by decide) _ _ _ rfl (HU.out.alloc _) ⟨wr.heap.size,0,none⟩ 1 1 [.string ss] rfl rfl (fun j u hu=>by rw [Addr.add_lit,Nat.zero_add,World.cell?_alloc_at _ _ _ _ (by simp)]; simpa using hu) (by simp [Value.oneCell']) (by unfold maxLen; omega) (by omega) (by have:=HW.out.size; simp; omega) ?_; intro v2 w2 hown' hgrow _; have HOw2:=za hown'; have HGw2:=za hgrow; clear hown' hgrow; have HB2:=za (Vj HW.out HU.out HGw2.out))
        | (at_builtin; refine wpList_append_own _ rfl _ _ 45 rfl wi.heap.size 9 i0 (.string ⟨#[]⟩) 1 16 Tryz.underlying45 hi hz0 hz1 hz2 rfl (by decide) _ _ _ rfl (HOw2.out.alloc _) ⟨w2.heap.size,0,none⟩ 1 1 [.string nm] rfl rfl (fun j u hu=>by rw [Addr.add_lit,Nat.zero_add,World.cell?_alloc_at _ _ _ _ (by simp)]; simpa using hu) (by simp [Value.oneCell']) (by unfold maxLen; omega) (by omega) (by have:=HW.out.size; have:=HB2.out.size; simp; omega) ?_; intro v3 w3 hown' hgrow _; have HOw3:=za hown'; have HGw3:=za hgrow; clear hown' hgrow)
        | fail)
        have hb3:=Vj HB2.out HOw2.out HGw3.out
        have ho3:=HOw3.out
        rw [← HEK.out,← vx ss] at ho3
        have R1:=za hb3
        have R2:Hid (w3.ownsRow wi.heap.size 9 1 v3 (uQ o ss.data.toList (j+1)).length ((uQ o ss.data.toList (j+1)).map encStr)):=by
         show World.ownsRow _ _ _ _ _ _ _
         rw [HE1.out]
         simpa using ho3
        clear hb3 ho3
        go_roundg (m - (j+1))
        case measure=>omega
        case rel=>exact ⟨j+1,by omega,by omega,by go_num,by rw [HST2.out,HBB.out]; rfl,R1,R2⟩
       | false =>
        have l1:Op.bytesLess ss.toList nm.toList=false:=by rw [Lib.toList_data,Lib.toList_data,Zy]; exact hbb
        have HE1:=za (HQ2.out rfl (by rw [← HTL2.out]; exact hbb))
        have HBB:=za hbb
        clear hbb HQ1 HQ2 HQ3
        go_wp2_with (first
        | (at_builtin; refine wpList_append_own _ rfl _ _ 45 rfl wi.heap.size 9 i0 (.string ⟨#[]⟩) 1 16 Tryz.underlying45 hi hz0 hz1 hz2 rfl (by decide) _ _ _ rfl (HU.out.alloc _) ⟨wr.heap.size,0,none⟩ 1 1 [.string nm] rfl rfl (fun j u hu=>by rw [Addr.add_lit,Nat.zero_add,World.cell?_alloc_at _ _ _ _ (by simp)]; simpa using hu) (by simp [Value.oneCell']) (by unfold maxLen; omega) (by omega) (by have:=HW.out.size; simp; omega) ?_; intro v2 w2 hown' hgrow _; have HOw2:=za hown'; have HGw2:=za hgrow; clear hown' hgrow)
        | fail)
        have ho:=HOw2.out
        rw [← HEK.out] at ho
        have R1:=za (Vj HW.out HU.out HGw2.out)
        have R2:Hid (w2.ownsRow wi.heap.size 9 1 v2 (uQ o ss.data.toList (j+1)).length ((uQ o ss.data.toList (j+1)).map encStr)):=by
         show World.ownsRow _ _ _ _ _ _ _
         rw [HE1.out]
         simpa using ho
        clear ho
        go_roundg (m - (j+1))
        case measure=>omega
        case rel=>exact ⟨j+1,by omega,by omega,by go_num,by rw [HST2.out,HBB.out]; rfl,R1,R2⟩
     ·
      have hltz2:¬ (j:Int)<(m:Int):=by omega
      obtain rfl:j=m:=by omega
      have hend:=out10_end o ss.data.toList
      rw [← HM.out] at hend
      cases hdn:uJ o ss.data.toList j with
      | true =>
       rw [hdn,if_pos rfl] at hend
       have R1:=za (z8 HBI.out HW.out)
       have R2:Hid (wr.ownsRow w.heap.size 9 1 u6 (xu (N.take (k+1))).length ((xu (N.take (k+1))).map encStr)):=by
        show World.ownsRow _ _ _ _ _ _ _
        rw [HE.out,hend]
        exact zC HU.out HBI.out.size
       clear hend hdn
       go_wp2
       go_roundg (n - (k+1))
       case measure=>omega
       case rel=>exact ⟨k+1,by omega,by omega,by go_num,R1,R2⟩
      | false =>
       rw [hdn,if_neg (by decide)] at hend
       have HEN:=za hend
       clear hend hdn
       go_wp2_with (first
       | (at_builtin; refine wpList_append_own _ rfl _ _ 45 rfl wi.heap.size 9 i0 (.string ⟨#[]⟩) 1 16 Tryz.underlying45 hi hz0 hz1 hz2 rfl (by decide) _ _ _ rfl (HU.out.alloc _) ⟨wr.heap.size,0,none⟩ 1 1 [.string ss] rfl rfl (fun j u hu=>by rw [Addr.add_lit,Nat.zero_add,World.cell?_alloc_at _ _ _ _ (by simp)]; simpa using hu) (by simp [Value.oneCell']) (by unfold maxLen; omega) (by omega) (by have:=HW.out.size; simp; omega) ?_; intro v2 w2 hown' hgrow _; have HOw2:=za hown'; have HGw2:=za hgrow; clear hown' hgrow)
       | fail)
       have ho:=HOw2.out
       rw [← vx ss] at ho
       have R1:=za (z8 HBI.out (Vj HW.out HU.out HGw2.out))
       have R2:Hid (w2.ownsRow w.heap.size 9 1 v2 (xu (N.take (k+1))).length ((xu (N.take (k+1))).map encStr)):=by
        show World.ownsRow _ _ _ _ _ _ _
        rw [HE.out,HEN.out]
        refine zC ?_ HBI.out.size
        simpa using ho
       clear ho
       go_roundg (n - (k+1))
       case measure=>omega
       case rel=>exact ⟨k+1,by omega,by omega,by go_num,R1,R2⟩
  ·
   have hltz:¬ (k:Int)<(n:Int):=by omega
   obtain rfl:k=n:=by omega
   have hu:=HO.out
   rw [List.take_of_length_le (by have:=HL.out; omega)] at hu
   have HF:Hid (yr (xu N) w (.returned u3) wr):=⟨_,rfl,hu,HWO.out⟩
   clear hu
   go_wp2
   go_ret
   exact HF.out

abbrev TG:TypeId:=178
def ddrE (N:List (List UInt8)) (g:List UInt8):Int:=if zf g then (if vl N g then 0 else 8) else 10

def Yk (W w':World):Prop:=∀ (k:Nat) (c:Array Value) (T:TypeId) (fr:Nat×Nat),W.heap[k]? = some (.cells c T fr)→T≠TG→w'.heap[k]? = some (.cells c T fr)
theorem Yk.trans {a b c:World} (h:Yk a b) (k:Yk b c):Yk a c:=fun i x T fr hi hT=>k i x T fr (h i x T fr hi hT) hT
theorem Yk.of_below {W w':World} (hb:Below W.heap.size W w'):Yk W w':=fun k _ _ _ h _=>(hb.block k (Array.getElem?_eq_some_iff.1 h).1).trans h
theorem uZ.keep {W:World} {b:Nat} {v1 v2:Value} (h:uZ W b v1 v2) (i:Nat) (x:Value):Yk W (W.setCell ⟨b,i,none⟩ x):=fun k c T fr hk hT=>by
 refine (Below.heap_setCell _ _ _ _ (fun e=>hT ?_)).trans hk
 have e':k=b:=e
 rw [e',show W.heap[b]? = _ from h] at hk
 injection hk with hk
 injection hk with _ hk
 exact hk.symm
theorem fX {w w':World} {b:Nat} {e size n:Nat} {v:Value} {xs:List Value} (h:w.ownsRow b e size v n xs) (hk:Yk w w') (he:e≠TG):w'.ownsRow b e size v n xs:=by
 refine ⟨h.1,?_⟩
 rcases h.2 with hn | ⟨g,cap,cur,e1,h0,hg,hr⟩
 ·
  exact .inl hn
 ·
  exact .inr ⟨g,cap,cur,e1,h0,hk g _ _ _ hg he,hr⟩
theorem NmR.keepG {w w':World} {v:Value} {N:List (List UInt8)} (h:NmR w v N) (hk:Yk w w'):NmR w' v N:=fX h hk (by decide)
theorem MbR.keepG {w w':World} {v:Value} {M:List vc} (h:MbR w v M) (hk:Yk w w'):MbR w' v M:=fX h hk (by decide)
theorem uZ.set0 {W:World} {b:Nat} {v1 v2:Value} (h:uZ W b v1 v2) (x:Value):uZ (W.setCell ⟨b,0,none⟩ x) b x v2:=by
 have h':W.heap[b]? = some (.cells #[v1,v2] TG (0,0)):=h
 have hl:=h.lt
 have:=h'
 rw [Array.getElem?_eq_getElem hl] at this
 injection this with this
 show (W.setCell ⟨b,0,none⟩ x).heap[b]? = _
 simp [World.setCell,hl,Array.getElem_modify,this]
theorem uZ.set1 {W:World} {b:Nat} {v1 v2:Value} (h:uZ W b v1 v2) (x:Value):uZ (W.setCell ⟨b,1,none⟩ x) b v1 x:=by
 have h':W.heap[b]? = some (.cells #[v1,v2] TG (0,0)):=h
 have hl:=h.lt
 have:=h'
 rw [Array.getElem?_eq_getElem hl] at this
 injection this with this
 show (W.setCell ⟨b,1,none⟩ x).heap[b]? = _
 simp [World.setCell,hl,Array.getElem_modify,this]
theorem uZ.other {W:World} {b c i:Nat} {v1 v2:Value} (h:uZ W b v1 v2) (hne:b≠c) (x:Value):uZ (W.setCell ⟨c,i,none⟩ x) b v1 v2:=(Below.heap_setCell _ _ _ _ hne).trans h
theorem Below.cellG {w wr:World} {b i:Nat} (hb:Below w.heap.size w wr) (h:w.heap.size≤b) (x:Value):Below w.heap.size w (wr.setCell ⟨b,i,none⟩ x):=hb.setCell (p:=⟨b,i,none⟩) h x
theorem fin2 {w wr:World} {b:Nat} {u1 u2:Value} (hb:Below w.heap.size w wr) (hr:uZ wr b u1 u2) (h:w.heap.size≤b) (x y:Value) :
  uZ ((wr.setCell ⟨b,0,none⟩ x).setCell ⟨b,1,none⟩ y) b x y∧Below w.heap.size w ((wr.setCell ⟨b,0,none⟩ x).setCell ⟨b,1,none⟩ y)∧Yk wr ((wr.setCell ⟨b,0,none⟩ x).setCell ⟨b,1,none⟩ y) :=
 ⟨(hr.set0 x).set1 y,Below.cellG (Below.cellG hb h x) h y,(hr.keep 0 x).trans ((hr.set0 x).keep 1 y)⟩
theorem fin3 {w wr:World} {a b i:Nat} {v1 v2 u1 u2:Value} (hb:Below w.heap.size w wr) (hx:uZ wr a v1 v2) (hr:uZ wr b u1 u2) (ha:w.heap.size≤a) (h:w.heap.size≤b) (hab:b≠a) (f x y:Value) :
  uZ (((wr.setCell ⟨a,i,none⟩ f).setCell ⟨b,0,none⟩ x).setCell ⟨b,1,none⟩ y) b x y∧Below w.heap.size w (((wr.setCell ⟨a,i,none⟩ f).setCell ⟨b,0,none⟩ x).setCell ⟨b,1,none⟩ y)∧Yk wr (((wr.setCell ⟨a,i,none⟩ f).setCell ⟨b,0,none⟩ x).setCell ⟨b,1,none⟩ y):=by
 obtain ⟨h1,h2,h3⟩:=fin2 (Below.cellG hb ha f) (hr.other hab f (i:=i)) h x y
 exact ⟨h1,h2,(hx.keep i f).trans h3⟩
end Go.Proofs.YthmomkjingcbiaaGreatDoor
