/-
  The texts that the laws of this seat share, part 4: what the code and the document's own answers tell, walked function by function.
  Conditions: each theorem's own.
-/
import Derived.Maps.OwnSet
import Derived.Maps.StringElems
import Derived.Sort.KeysCollected
import Derived.StringKeys
import Derived.Shelf.SlIter.Collect
import Derived.Sort.OwnSorted
import Derived.Test.YtmcomnocpibiiaaGreatDoorRows
import Derived.WideKeyEntry
import Derived.Test.YtmcomnocpibiiaaGreatDoorFolABC
set_option maxHeartbeats 16000000
namespace Go.Proofs.YtmcomnocpibiiaaGreatDoor
open Go.RowKit

def first7:List Int→Int
 | []=>0
 | e::l=>if e=0 then first7 l else e



end Go.Proofs.YtmcomnocpibiiaaGreatDoor
namespace Go.Proofs.YtmcomnocpibiiaaGreatDoor
open Go.ChangeShapes Go.WideShapes Go.ChangeAt Go.RowKit Go.Deep

def UT (w:World) (A:Option Addr) (l:List Us):Prop :=
 l≠[]→∃ b off,A=some ⟨b,off,none⟩∧b<w.heap.size∧∀ i (hi:i<l.length) j u,l[i].cells[j]? = some u→w.cell? ⟨b,off+i * 5+j,none⟩=some u
theorem UT.later {w w':World} {A:Option Addr} {l:List Us} (h:UT w A l) (hb:Below w.heap.size w w'):UT w' A l:=fun hl=>by
 obtain ⟨b,off,rfl,hlt,hc⟩:=h hl
 exact ⟨b,off,rfl,Nat.lt_of_lt_of_le hlt hb.size,fun i hi j u hu=>(hb.cell (p:=⟨b,off+i * 5+j,none⟩) hlt).trans (hc i hi j u hu)⟩


section
variable {H:Type} {enc:TypeId×Value→H} {W:World} {base:Nat} {sp:Nat→Bool} {hd:Bool}
end
end Go.Proofs.YtmcomnocpibiiaaGreatDoor
namespace Go.Proofs.YtmcomnocpibiiaaGreatDoor
open Go.Maps

abbrev zQ:=List (List UInt8×List UInt8)

def uN (L:zQ):Prop:=L.Pairwise (fun p q=>bytesBefore p.1 q.1=true)

def entE (p:List UInt8×List UInt8):Lit×DataW Unit:=(.string p.1,.lit (.string p.2))
def J3 (L:zQ):DataW Unit:=.map (L.map entE)

def insE (x:List UInt8×List UInt8):zQ→zQ
 | []=>[x]
 | y::r=>if bytesBefore x.1 y.1 then x::y::r else y::insE x r
def vK (L:zQ) (k:List UInt8):zQ:=L.filter (fun p=>!(p.1 == k))
def qP (L:zQ) (k v:List UInt8):zQ:=insE (k,v) (vK L k)
def xG (L:zQ) (k:List UInt8):Bool:=L.any (fun p=>p.1 == k)
def xF (L:zQ) (k:List UInt8):List UInt8:=match L.find? (fun p=>p.1 == k) with | some p=>p.2 | none=>[]

theorem datE_ins (x:List UInt8×List UInt8):∀ L:zQ,(insE x L).map entE=DataW.insert (entE x) (L.map entE)
 | []=>rfl
 | y::r=>by
  simp only [insE,List.map_cons,DataW.insert]
  have e:(entE x).1.before (entE y).1=bytesBefore x.1 y.1:=rfl
  rw [e]
  cases bytesBefore x.1 y.1
  ·
   simp [datE_ins x r]
  ·
   simp

theorem UM (k:List UInt8):∀ L:zQ,(vK L k).map entE=(L.map entE).filter (fun p=>!p.1.sameKey (.string k))
 | []=>rfl
 | y::r=>by
  have ih:=UM k r
  unfold vK at ih ⊢
  have e:(entE y).1.sameKey (.string k)=(y.1 == k):=rfl
  simp only [List.filter_cons,List.map_cons,e]
  cases (y.1 == k) <;> simp [ih]

theorem datE_put (L:zQ) (k v:List UInt8):(J3 L).put (.string k) (.lit (.string v))=J3 (qP L k v):=by
 unfold J3 qP
 rw [datE_ins,UM]; rfl
theorem datE_del (L:zQ) (k:List UInt8):(J3 L).del (.string k)=J3 (vK L k):=by
 unfold J3
 rw [UM]; rfl
theorem datE_has (L:zQ) (k:List UInt8):Maps.has (J3 L) (.string k)=xG L k:=by
 unfold J3 xG
 rw [Maps.has_eq,List.any_map]; rfl
theorem datE_at (L:zQ) (k:List UInt8):(J3 L).atKey (.string k) (.lit (.string []))=.lit (.string (xF L k)):=by
 unfold J3 xF
 unfold DataW.atKey
 simp only [List.find?_map]
 have e:((fun p:Lit×DataW Unit=>p.1.sameKey (.string k)) ∘ entE)=(fun p=>p.1 == k):=rfl
 rw [e]
 cases L.find? (fun p=>p.1 == k) <;> rfl
theorem datE_size (L:zQ):Maps.size (J3 L)=L.length:=by simp [J3,Maps.size]

/-! ### the order -/
theorem qw:∀ a b:List UInt8,decide (Lib.compareBytes a b<0)=bytesBefore a b
 | [],[]=>by simp [Lib.compareBytes,bytesBefore]
 | [],_::_=>by simp [Lib.compareBytes,bytesBefore]
 | _::_,[]=>by simp [Lib.compareBytes,bytesBefore]
 | a::r,b::s=>by
  unfold Lib.compareBytes bytesBefore
  by_cases h:a<b
  ·
   simp [h]
  ·
   by_cases h2:b<a
   ·
    have hn:a≠b:=fun e=>by subst e; exact h h2
    simp [h,h2,hn]
   ·
    have e:a=b:=by
     have h1:=UInt8.not_lt.1 h; have h3:=UInt8.not_lt.1 h2
     exact UInt8.le_antisymm h3 h1
    subst e
    simp [qw r s]

theorem zC (a:List UInt8):bytesBefore a a=false:=WideAt.bytes_irrefl a
theorem vE {a b:List UInt8} (h:bytesBefore a b=true):a≠b:=fun e=>by subst e; rw [zC] at h; cases h
theorem yy {a b:List UInt8} (h:bytesBefore a b=true):bytesBefore b a=false:=by
 cases hb:bytesBefore b a
 ·
  rfl
 ·
  exact absurd (WideShapes.bytes_trans _ _ _ h hb) (by rw [zC]; exact Bool.noConfusion)

theorem qB {L:zQ} (h:uN L) (k:List UInt8):uN (vK L k):=h.filter _
theorem JP {x y:List UInt8×List UInt8}:∀ {L:zQ},y∈insE x L↔y=x∨y∈L
 | []=>by simp [insE]
 | z::r=>by
  unfold insE
  split
  ·
   simp
  ·
   simp only [List.mem_cons,JP (L:=r)]
   constructor
   ·
    rintro (h | h | h)
    ·
     exact .inr (.inl h)
    ·
     exact .inl h
    ·
     exact .inr (.inr h)
   ·
    rintro (h | h | h)
    ·
     exact .inr (.inl h)
    ·
     exact .inl h
    ·
     exact .inr (.inr h)
theorem FK {x:List UInt8×List UInt8}:∀ {L:zQ},uN L→(∀ p∈L,p.1≠x.1)→uN (insE x L)
 | [],_,_=>by simp [insE,uN]
 | y::r,h,hn=>by
  unfold insE
  obtain ⟨h1,h2⟩:=List.pairwise_cons.1 h
  split
  ·
   rename_i hb
   exact List.pairwise_cons.2 ⟨fun p hp=>by
    rcases List.mem_cons.1 hp with rfl | hp
    ·
     exact hb
    ·
     exact WideShapes.bytes_trans _ _ _ hb (h1 p hp),h⟩
  ·
   rename_i hb
   have hyx:bytesBefore y.1 x.1=true:=by
    rcases WideAt.bytes_total y.1 x.1 (hn y (by simp)) with h' | h'
    ·
     exact h'
    ·
     exact absurd h' hb
   exact List.pairwise_cons.2 ⟨fun p hp=>by
    rcases JP.1 hp with rfl | hp
    ·
     exact hyx
    ·
     exact h1 p hp,FK h2 (fun p hp=>hn p (by simp [hp]))⟩
theorem yZ {L:zQ} {k:List UInt8} {p:List UInt8×List UInt8}:p∈vK L k↔p∈L∧p.1≠k:=by
 unfold vK; simp
theorem jD {L:zQ} (h:uN L) (k v:List UInt8):uN (qP L k v) :=
 FK (qB h k) (fun _ hp=>(yZ.1 hp).2)

theorem VF (x:List UInt8×List UInt8):∀ L:zQ,(insE x L).length=L.length+1
 | []=>rfl
 | y::r=>by unfold insE; split <;> simp [VF x r]
theorem xE {L:zQ} {k:List UInt8}:xG L k=true↔∃ p∈L,p.1=k:=by simp [xG]
theorem qu {L:zQ} {k:List UInt8} (h:xG L k=false):vK L k=L:=by
 unfold vK; rw [List.filter_eq_self]
 intro p hp
 cases e:(p.1 == k)
 ·
  rfl
 ·
  have:xG L k=true:=xE.2 ⟨p,hp,by simpa using e⟩
  rw [h] at this; cases this
theorem VP {L:zQ} (hr:uN L) {k:List UInt8} (h:xG L k=true):(vK L k).length+1=L.length:=by
 induction L with
 | nil=>simp [xG] at h
 | cons y r ih =>
  obtain ⟨h1,h2⟩:=List.pairwise_cons.1 hr
  by_cases e:y.1=k
  ·
   have hn:xG r k=false:=by
    cases hh:xG r k
    ·
     rfl
    ·
     obtain ⟨p,hp,hk⟩:=xE.1 hh
     exact absurd (h1 p hp) (by rw [e,hk,zC]; exact Bool.noConfusion)
   have e2:=qu hn
   unfold vK at e2 ⊢
   simp [e,e2]
  ·
   have hh:xG r k=true:=by
    obtain ⟨p,hp,hk⟩:=xE.1 h
    rcases List.mem_cons.1 hp with rfl | hp
    ·
     exact absurd hk e
    ·
     exact xE.2 ⟨p,hp,hk⟩
   have:=ih h2 hh
   unfold vK at this ⊢
   have e':(y.1 == k)=false:=by simpa using e
   rw [List.filter_cons]
   simp only [e',Bool.not_false,if_true,List.length_cons]
   omega
theorem jE {L:zQ} (hr:uN L) (k v:List UInt8):(qP L k v).length=if xG L k then L.length else L.length+1:=by
 unfold qP
 rw [VF]
 cases h:xG L k
 ·
  rw [qu h]; simp
 ·
  have:=VP hr h; simp; omega

theorem ZD {L:zQ} (hr:uN L) {q:List UInt8×List UInt8} (h:q∈L):xF L q.1=q.2:=by
 induction L with
 | nil=>cases h
 | cons y r ih =>
  obtain ⟨h1,h2⟩:=List.pairwise_cons.1 hr
  rcases List.mem_cons.1 h with rfl | h
  ·
   simp [xF]
  ·
   have hne:(y.1 == q.1)=false:=by
    have:=vE (h1 q h)
    simpa using this
   have:=ih h2 h
   unfold xF at this ⊢
   rw [List.find?_cons,hne]
   exact this

/-! ### sorting what a map gave -/
theorem sort_names {L:zQ} (hr:uN L) {ss:List (List UInt8)} (hp:ss.Perm (L.map (·.1))) (le:List UInt8→List UInt8→Bool) (hle:∀ x y,le x y=!bytesBefore y x):ss.mergeSort le=L.map (·.1):=by
 have htr:∀ a b c,le a b=true→le b c=true→le a c=true:=by
  intro a b c h1 h2
  rw [hle] at *
  simp only [Bool.not_eq_eq_eq_not,Bool.not_true] at *
  cases hca:bytesBefore c a
  ·
   rfl
  ·
   by_cases e:a=b
   ·
    subst e; rw [hca] at h2; cases h2
   ·
    rcases WideAt.bytes_total a b e with h | h
    ·
     rw [WideShapes.bytes_trans _ _ _ hca h] at h2; cases h2
    ·
     rw [h] at h1; cases h1
 have htot:∀ a b,(le a b || le b a)=true:=by
  intro a b
  rw [hle,hle]
  cases h:bytesBefore b a
  ·
   rfl
  ·
   rw [yy h]; rfl
 have hs:(ss.mergeSort le).Pairwise (fun a b=>le a b=true):=List.pairwise_mergeSort htr htot ss
 have hq:(ss.mergeSort le).Perm (L.map (·.1)):=(List.mergeSort_perm ss le).trans hp
 have hL:(L.map (·.1)).Pairwise (fun a b=>le a b=true):=by
  rw [List.pairwise_map]
  exact hr.imp (fun h=>by rw [hle,yy h]; rfl)
 refine List.Perm.eq_of_pairwise (le:=fun a b=>le a b=true) ?_ hs hL hq
 intro a b _ _ h1 h2
 rw [hle] at h1 h2
 by_cases e:a=b
 ·
  exact e
 ·
  rcases WideAt.bytes_total a b e with h | h
  ·
   rw [h] at h2; cases h2
  ·
   rw [h] at h1; cases h1

end Go.Proofs.YtmcomnocpibiiaaGreatDoor
namespace Go.Proofs.YtmcomnocpibiiaaGreatDoor
open Go.RowKit Go.Maps

theorem Uh {H:Type} {w:World} {P:Program} {k:TypeId} {R:Value→Option (DataW H×List MemPlace)} {b n:Nat} {D:DataW H} (h:w.ownsMap P k R b n D):w.ownsMap P k R b (Maps.size D) D:=by
 obtain ⟨es,clock,hb,F,_,rfl⟩:=h
 have e1:Maps.size (DataW.map ((es.toList.map (WideElems.rg P k R)).foldr DataW.insert []))=es.size:=by simp [Maps.size,length_sorted]
 exact ⟨es,clock,hb,F,by rw [e1]; exact Nat.le_refl _,rfl⟩

def Zd (w:World) (b:Nat) (L:zQ):Prop:=w.ownsMap Tryz.prog 9 (plainElem Tryz.prog 9) b L.length (J3 L)
theorem Zd.of {w:World} {b n:Nat} {L:zQ} (h:w.ownsMap Tryz.prog 9 (plainElem Tryz.prog 9) b n (J3 L)):Zd w b L:=by
 have:=Uh h
 rwa [datE_size] at this
theorem Zd.kept {w w':World} {b:Nat} {L:zQ} (h:Zd w b L) (hb:w'.heap[b]? = w.heap[b]?):Zd w' b L:=by
 obtain ⟨es,clock,h1,r⟩:=h
 exact ⟨es,clock,hb.trans h1,r⟩

section
variable {w w':World} {B:Nat} {p:Option Nat} {L:zQ}
end

theorem QA:Keyed Tryz.prog 9:=string_keyed Tryz.underlying9
theorem zero7 (w:World):(zeroValue 9).run Tryz.prog w=.ok (.string ⟨#[]⟩) w:=by kernel_rfl
theorem key7 (s:ByteArray) (h:s.size≤maxLen):keyOf Tryz.prog 9 (.string s)=some (.string s.data.toList):=WideMaps.keyOf_string_mk Tryz.underlying9 h

def tx7 (l:List UInt8):ByteArray:=⟨l.toArray⟩
theorem jA (l:List UInt8):(tx7 l).data.toList=l:=by simp [tx7]
theorem Yj (s:ByteArray):tx7 s.data.toList=s:=by simp [tx7]

theorem Q1 {w w':World} {B b:Nat} (h:w.mapTurned w' b) (hne:b≠B):w'.heap[B]? = w.heap[B]? := by
 obtain ⟨es,clock,es',clock',_,rfl⟩:=h
 exact ChangeMaps.heap_setBlock_other (by assumption) _ (fun e=>hne e.symm)

end Go.Proofs.YtmcomnocpibiiaaGreatDoor
namespace Go.Proofs.YtmcomnocpibiiaaGreatDoor
open Go.RowKit

section
variable {P:Program} {ops:Array Oper} {Q:Exit→Act→World→Prop}

def J1 (ops:Array Oper) (i:Nat):List Nat:=match ops[i]? with
 | some o=>(o.after.toList.filter (Region.binds .any)).map (·.on)
 | none=>[]
def ancL (ops:Array Oper):Nat→List Nat→List Nat
 | 0,S=>S
 | j+1,S=>ancL ops j (if S.contains j then S++J1 ops j else S)

theorem J0 {o:Oper} {i:Nat} {L:Nat→Bool} (ho:ops[i]? = some o) (h:∀ d,(o.after.toList.any fun e=>Region.binds .any e && e.on == d)=true→L d=true):∀ a∈J1 ops i,L a=true:=by
 intro a ha
 unfold J1 at ha
 rw [ho] at ha
 obtain ⟨e,he,rfl⟩:=List.mem_map.1 ha
 obtain ⟨h1,h2⟩:=List.mem_filter.1 he
 exact h _ (List.any_eq_true.2 ⟨e,h1,by simp [h2]⟩)
theorem fu {L:Nat→Bool} (hc:fh .any ops L) {i:Nat} (hi:L i=true):∀ a∈J1 ops i,L a=true:=by
 cases ho:ops[i]? with
 | none=>intro a ha; unfold J1 at ha; rw [ho] at ha; cases ha
 | some o=>exact J0 ho (hc i o ho hi)
theorem Ys {L:Nat→Bool} (hc:fh .any ops L):∀ (j:Nat) (S:List Nat),(∀ a∈S,L a=true)→∀ a∈ancL ops j S,L a=true
 | 0,_,h,a,ha=>h a ha
 | j+1,S,h,a,ha=>by
  unfold ancL at ha
  refine Ys hc j _ ?_ a ha
  intro b hb
  split at hb
  ·
   rename_i hj
   rcases List.mem_append.1 hb with hb | hb
   ·
    exact h b hb
   ·
    exact fu hc (h j (by simpa using hj)) b hb
  ·
   exact h b hb

theorem closed_upd {L:Nat→Bool} (hc:fh .any ops L) {i:Nat} {o:Oper} (ho:ops[i]? = some o) (hd:∀ d,(o.after.toList.any fun e=>Region.binds .any e && e.on == d)=true→L d=true):fh .any ops (vm L i):=by
 intro j oj hoj hLj d hdd
 unfold vm at hLj ⊢
 by_cases e:d=i
 ·
  rw [if_pos e]
 ·
  rw [if_neg e]
  by_cases ej:j=i
  ·
   subst ej
   rw [ho] at hoj
   injection hoj with hoj
   subst hoj
   exact hd d hdd
  ·
   rw [if_neg ej] at hLj
   exact hc j oj hoj hLj d hdd

theorem allO_at {φ:Nat→Oper→Prop}:∀ {l:List Oper} {k:Nat},(∀ i o,l[i]? = some o→φ (k+i) o)→FG φ l k
 | [],_,_=>trivial
 | x::r,k,h=>⟨h 0 x rfl,allO_at fun i o ho=>by
  have:=h (i+1) o (by simpa using ho)
  rwa [show k+(i+1)=k+1+i by omega] at this⟩
theorem allO_of {φ:Nat→Oper→Prop} {l:List Oper} (h:∀ i o,l[i]? = some o→φ i o):FG φ l 0:=allO_at fun i o ho=>by
 rw [Nat.zero_add]; exact h i o ho

theorem yL {id:Nat} {w:World} {a:Act} (hm:P.follows .mixedOrders=true) (last:Nat) (R D:World→Prop) (Y:Nat→Value→World→Prop) (Z:Value→Prop) (F:(Nat→Value)→Act) (hF:∀ x,vI (ops.toList.map (·.dst)) x 0 a=F x)
  (hap:qQ (ops.toList.map (·.dst))=true) (hback:(ops.toList.zipIdx.all fun p=>p.1.after.all fun e=>!(Region.binds .any e) || decide (e.on<p.2))=true)
  (hanc:((List.range last).all fun i=>(ancL ops last (J1 ops last)).contains i)=true) (hbeh:((List.range ops.size).all fun j=>decide (j≤last) || (ancL ops j (J1 ops j)).contains last)=true) (hlt:last<ops.size) (hR:R w.drew)
  (step:FG (fun i o=>∀ (x:Nat→Value) (w:World),
   (i<last→R w→(∀ j,(o.after.toList.any fun e=>Region.binds .any e && e.on == j)=true→Y j (x j) w) →
    ∀ K:Act→World→Prop,(∀ v w',Y i v w'→R w'→(∀ j u,Y j u w→Y j u w')→K ((F x).put o.dst v) w') →
     if Region.wanted o (yielded ops (F x).tmps)=true then Oper.wp P o (F x) w K Q else K ((F x).put o.dst undef) w) ∧
   (i=last→R w→(∀ j,(o.after.toList.any fun e=>Region.binds .any e && e.on == j)=true→Y j (x j) w) →
    ∀ K:Act→World→Prop,(∀ v w',Z v→D w'→K ((F x).put o.dst v) w') →
     if Region.wanted o (yielded ops (F x).tmps)=true then Oper.wp P o (F x) w K Q else K ((F x).put o.dst undef) w) ∧
   (last<i→D w→(∀ j,(o.after.toList.any fun e=>Region.binds .any e && e.on == j)=true→last≤j→Z (x j)) →
    ∀ K:Act→World→Prop,(∀ v,Z v→K ((F x).put o.dst v) w) →
     if Region.wanted o (yielded ops (F x).tmps)=true then Oper.wp P o (F x) w K Q else K ((F x).put o.dst undef) w)) ops.toList 0)
  (fin:∀ (x:Nat→Value) (w:World),D w→(∀ j,last≤j→j<ops.size→Z (x j))→Q .normal (F x) w):(Code.region id ops true).wp P Q a w:=by
 refine xL hm (fun L x W=>fh .any ops L∧(∀ j,L j=true→j<ops.size)∧((L last=false∧R W∧∀ j,L j=true→Y j (x j) W)∨(L last=true∧D W∧∀ j,L j=true→last≤j→Z (x j)))) F hF hap hback
  (fun _=>⟨(fun _ _ _ h=>nomatch h),(fun _ h=>nomatch h),.inl ⟨rfl,hR,(fun _ h=>nomatch h)⟩⟩) ?_ ?_
 ·
  have hat:=fun i o h=>step.at_ i o h
  have gen:∀ (i:Nat) (o:Oper),ops.toList[i]? = some o→∀ (L:Nat→Bool) (x:Nat→Value) (w:World),L i=false→(∀ d,(o.after.toList.any fun e=>Region.binds .any e && e.on == d)=true→L d=true) →
    (fh .any ops L∧(∀ j,L j=true→j<ops.size)∧((L last=false∧R w∧∀ j,L j=true→Y j (x j) w)∨(L last=true∧D w∧∀ j,L j=true→last≤j→Z (x j)))) →
    ∀ K:Act→World→Prop,(∀ v w',(fh .any ops (vm L i)∧(∀ j,vm L i j=true→j<ops.size)∧((vm L i last=false∧R w'∧∀ j,vm L i j=true→Y j (upd x i v j) w')∨(vm L i last=true∧D w'∧∀ j,vm L i j=true→last≤j→Z (upd x i v j))))→K ((F x).put o.dst v) w') →
     if Region.wanted o (yielded ops (F x).tmps)=true then Oper.wp P o (F x) w K Q else K ((F x).put o.dst undef) w:=by
   intro i o ho L x w hLi hd hI K hK
   have ho':ops[i]? = some o:=by simpa using ho
   have hisz:i<ops.size:=(Array.getElem?_eq_some_iff.1 ho').1
   obtain ⟨hcl,hsz,hI⟩:=hI
   have hcu:=closed_upd hcl ho' hd
   have hsu:∀ j,vm L i j=true→j<ops.size:=by
    intro j hj
    unfold vm at hj
    by_cases e:j=i
    ·
     rw [e]; exact hisz
    ·
     rw [if_neg e] at hj; exact hsz j hj
   obtain ⟨s1,s2,s3⟩:=hat i o ho x w
   rw [Nat.zero_add] at s1 s2 s3
   have hbl:∀ j,last<j→j<ops.size→last∈ancL ops j (J1 ops j):=by
    intro j h1 h2
    have:=List.all_eq_true.1 hbeh j (List.mem_range.2 h2)
    rw [decide_eq_false (by omega),Bool.false_or] at this
    simpa using this
   rcases hI with ⟨h0,hRw,hY⟩ | ⟨h1,hDw,hZ⟩
   ·
    rcases Nat.lt_trichotomy i last with hil | rfl | hil
    ·
     refine s1 hil hRw (fun j hj=>hY j (hd j hj)) K fun v w' hy hr hk=>hK v w' ⟨hcu,hsu,.inl ⟨?_,hr,?_⟩⟩
     ·
      rw [show vm L i last=L last from if_neg (by omega)]; exact h0
     ·
      intro j hj
      by_cases e:j=i
      ·
       subst e; rw [show upd x j v j=v from if_pos rfl]; exact hy
      ·
       rw [show upd x i v j=x j from if_neg e]
       rw [show vm L i j=L j from if_neg e] at hj
       exact hk j _ (hY j hj)
    ·
     refine s2 rfl hRw (fun j hj=>hY j (hd j hj)) K fun v w' hz hdw=>hK v w' ⟨hcu,hsu,.inr ⟨if_pos rfl,hdw,?_⟩⟩
     intro j hj hle
     by_cases e:j=i
     ·
      subst e; rw [show upd x j v j=v from if_pos rfl]; exact hz
     ·
      rw [show vm L i j=L j from if_neg e] at hj
      have:=Ys hcl j _ (fu hcl hj) i (hbl j (by omega) (hsz j hj))
      rw [hLi] at this
      cases this
    ·
     exfalso
     have:=Ys hcl i _ (J0 ho' hd) last (hbl i hil hisz)
     rw [h0] at this
     cases this
   ·
    rcases Nat.lt_trichotomy i last with hil | rfl | hil
    ·
     exfalso
     have h2:=List.all_eq_true.1 hanc i (List.mem_range.2 hil)
     have:=Ys hcl last _ (fu hcl h1) i (by simpa using h2)
     rw [hLi] at this
     cases this
    ·
     rw [hLi] at h1; cases h1
    ·
     refine s3 hil hDw (fun j hj hle=>hZ j (hd j hj) hle) K fun v hz=>hK v w ⟨hcu,hsu,.inr ⟨?_,hDw,?_⟩⟩
     ·
      rw [show vm L i last=L last from if_neg (by omega)]; exact h1
     ·
      intro j hj hle
      by_cases e:j=i
      ·
       subst e; rw [show upd x j v j=v from if_pos rfl]; exact hz
      ·
       rw [show upd x i v j=x j from if_neg e]
       rw [show vm L i j=L j from if_neg e] at hj
       exact hZ j hj hle
  exact allO_of gen
 ·
  intro L x w hall ⟨_,_,hI⟩
  rcases hI with ⟨h0,_⟩ | ⟨_,hDw,hZ⟩
  ·
   rw [hall last hlt] at h0; cases h0
  ·
   exact fin x w hDw (fun j h1 h2=>hZ j (hall j h2) h1)
end
end Go.Proofs.YtmcomnocpibiiaaGreatDoor
namespace Go.Proofs.YtmcomnocpibiiaaGreatDoor
open Go.RowKit Go.Maps Go.Sort Go.Shelf

theorem lt7 (x y:List UInt8):ltOf Lib.compareBytes x y=bytesBefore x y:=qw x y
theorem swo7:SWO (ltOf Lib.compareBytes) where
 irrefl x:=by rw [lt7]; exact zC x
 trans x y z h1 h2:=by rw [lt7] at *; exact WideShapes.bytes_trans _ _ _ h1 h2
 ntrans x y z h1 h2:=by
  rw [lt7] at *
  cases h:bytesBefore x z
  ·
   rfl
  ·
   by_cases e:x=y
   ·
    subst e; rw [h] at h2; cases h2
   ·
    rcases WideAt.bytes_total x y e with h' | h'
    ·
     rw [h'] at h1; cases h1
    ·
     rw [WideShapes.bytes_trans _ _ _ h' h] at h2; cases h2
theorem tot7 (x y:List UInt8) (h1:ltOf Lib.compareBytes x y=false) (h2:ltOf Lib.compareBytes y x=false):x=y:=by
 rw [lt7] at *
 by_cases e:x=y
 ·
  exact e
 ·
  rcases WideAt.bytes_total x y e with h' | h'
  ·
   rw [h'] at h1; cases h1
  ·
   rw [h'] at h2; cases h2
theorem cmp7 (blk off size:Nat) (w:World):CmpLays1 Tryz.prog 151 #[] encStr Lib.compareBytes blk off size w :=
 CmpReads.lays fun _ _ _ _ x y=>(qL ⟨x.toArray⟩ ⟨y.toArray⟩ _).mono fun e w' ⟨he,hw⟩=>⟨by rw [he],0,hw⟩

set_option maxRecDepth 100000 in
theorem XN (g:Nat) (lb:Array Value) (S:List (List UInt8)→Prop) (N:Nat) (w:World) (eg:∀ args w,(callFunc g args).run Tryz.prog w=.ok (.enter g args) w) (hN:N≤1000) (hSN:∀ ss,S ss→ss.length≤1000) (hseq:SeqGives Fence.wide 2 Tryz.prog g lb encStr S N w) :
  Calls Tryz.prog 149 #[.func (.func g) #[] lb,.func (.func 151) #[] #[]] w fun e w'=>∃ (v:Value) (ss:List (List UInt8)),e=.returned v∧S ss ∧
   w'.ownsRow w.heap.size 9 1 v ss.length ((ss.mergeSort (fun x y=>!(ltOf Lib.compareBytes) y x)).map encStr)∧(v=.slice none 0 0↔ss=[])∧Below w.heap.size w w':=by
 have cC:Calls Tryz.prog 196 #[.func (.func g) #[] lb] w fun e w'=>∃ (v:Value) (ss:List (List UInt8)),e=.returned v∧S ss∧w'.ownsRow w.heap.size 9 1 v ss.length (ss.map encStr)∧(v=.slice none 0 0↔ss=[])∧Below w.heap.size w w' :=
  (callsIn_wide (n:=4)).1 (AnyZ.collect_in Tryz.collect7 Fence.wide 4 trivial trivial rfl (by omega) g lb trivial eg S N (Nat.le_trans hN (by decide)) (by omega) w hseq)
 have HC:=za cC
 have HS:Hid (∀ (blk cap:Nat) (ss:List (List UInt8)) (W:World),Holds encStr W blk 0 ss.toArray→blk<W.heap.size→ss.length<4611686018427387904 →
   Calls Tryz.prog 197 #[.slice (some ⟨blk,0,none⟩) ss.length cap,.func (.func 151) #[] #[]] W fun e w'=>e=.returned (.tuple #[])∧∃ n os,w'=grow (putRow encStr (Sort.ahead W n) blk 0 (ss.mergeSort fun x y=>!(ltOf Lib.compareBytes) y x).toArray) os):=fun blk cap ss W hH hb hl=>by
  have:=Tryz.slices_SortFunc_total encStr (fun _=>rfl) Lib.compareBytes swo7 151 #[] blk 0 cap ss.toArray W (enters_of Tryz.func151 (by kernel_rfl) rfl) (cmp7 blk 0 _ W) hH hb (by simpa using hl) tot7
  simpa [sortWorld] using this
 have HS0:Hid (∀ (cap:Nat) (W:World),Calls Tryz.prog 197 #[.slice none 0 cap,.func (.func 151) #[] #[]] W fun e w'=>e=.returned (.tuple #[])∧w'=W):=fun cap W=>Tryz.slices_SortFunc_none (α:=List UInt8) none cap _ W
 clear cC hseq
 go_enter Tryz.func149,Tryz.ntmps149
 go_wp2_with fail
 with_reducible refine HC.out.mono ?_
 rintro e W ⟨v,ss,rfl,hS,hrow,hnil,hb⟩
 have hln:=hSN _ hS
 have HSS:=za hS
 have HNL:=za hnil
 have HB:=za hb
 have HR:=za hrow
 clear hS hnil hb HC
 rcases hrow.2 with ⟨rfl,hz⟩ | ⟨gb,cap,cur,rfl,hbase,hgb,r1,r2,r3,r4⟩
 ·
  have hss:ss=[]:=List.eq_nil_of_length_eq_zero hz
  subst hss
  clear hrow hz hln hSN
  go_wp2_with (go_at_call 197; (with_reducible refine (HS0.out _ _).mono ?_); rintro e w' ⟨rfl,rfl⟩)
  go_ret
  exact ⟨.slice none 0 0,[],rfl,HSS.out,by simpa using HR.out,by simp,HB.out⟩
 ·
  have hH:Holds encStr W gb 0 ss.toArray:=holds_of_block hgb (by simpa using r4)
  have hgl:gb<W.heap.size:=(Array.getElem?_eq_some_iff.1 hgb).1
  have cS:=za (HS.out gb cap ss W hH hgl (by omega))
  have HF:Hid (∀ n os,(grow (putRow encStr (Sort.ahead W n) gb 0 (ss.mergeSort fun x y=>!(ltOf Lib.compareBytes) y x).toArray) os).ownsRow w.heap.size 9 1 (.slice (some ⟨gb,0,none⟩) ss.length cap) ss.length ((ss.mergeSort (fun x y=>!(ltOf Lib.compareBytes) y x)).map encStr) ∧
    Below w.heap.size w (grow (putRow encStr (Sort.ahead W n) gb 0 (ss.mergeSort fun x y=>!(ltOf Lib.compareBytes) y x).toArray) os)):=fun n os =>
   ⟨ownsRow_sorted (by simp) hbase hgb r1 r2 r3,HB.out.grown (grownBy_sorted _) HB.out.size (fun j hj=>by cases hj; exact hbase)⟩
  clear hrow hbase hgb r1 r2 r3 r4 hH hgl HR HB HS HS0
  generalize hts:(ss.mergeSort fun x y=>!(ltOf Lib.compareBytes) y x)=ts at cS HF
  have HT:=za hts
  clear hts hln hSN
  generalize hn:ss.length=n at *
  go_wp2_with (go_at_call 197; (with_reducible refine cS.out.mono ?_); rintro e w' ⟨rfl,nn,os,rfl⟩)
  go_ret
  subst hn
  refine ⟨_,ss,rfl,HSS.out,?_,HNL.out,(HF.out nn os).2⟩
  rw [HT.out]
  exact (HF.out nn os).1


end Go.Proofs.YtmcomnocpibiiaaGreatDoor
namespace Go.Proofs.YtmcomnocpibiiaaGreatDoor
open Go.ChangeShapes Go.WideShapes Go.ChangeAt Go.RowKit Go.Deep

structure Act7 where
 kd:Nat
 nm:ByteArray
 hs:ByteArray
def Act7.cells (t:Act7):List Value:=[.int .u8 (t.kd:Int),.string t.nm,.string t.hs]


section
variable {H:Type} {enc:TypeId×Value→H} {W:World} {base:Nat} {sp:Nat→Bool} {hd:Bool} {fuel:Nat}
end
end Go.Proofs.YtmcomnocpibiiaaGreatDoor
namespace Go.Proofs.YtmcomnocpibiiaaGreatDoor
open Go.Maps

structure yt (L M:zQ):Prop where
 rl:uN L
 rm:uN M
 iff:∀ n a,(n,a)∈L↔(a,n)∈M

def V8 (L:zQ) (a:List UInt8):Bool:=L.any (fun p=>p.2 == a)
def Qj (L:zQ) (a:List UInt8):List UInt8:=match L.find? (fun p=>p.2 == a) with | some p=>p.1 | none=>[]

theorem Ud {L:zQ} (h:uN L) {n a b:List UInt8} (ha:(n,a)∈L) (hb:(n,b)∈L):a=b:=by
 have h1:=ZD h ha
 have h2:=ZD h hb
 exact h1.symm.trans h2
theorem xQ {L:zQ} {n:List UInt8} (h:xG L n=true):(n,xF L n)∈L:=by
 unfold xG at h
 unfold xF
 obtain ⟨p,hp,e⟩:=List.any_eq_true.1 h
 cases hf:L.find? (fun p=>p.1 == n) with
 | none=>exact absurd e (by simpa using List.find?_eq_none.1 hf p hp)
 | some q =>
  have h1:=List.mem_of_find?_eq_some hf
  have h2:=List.find?_some hf
  have:q.1=n:=by simpa using h2
  rw [← this]; exact h1
theorem Uo {L:zQ} {n a:List UInt8} (h:(n,a)∈L):xG L n=true:=xE.2 ⟨_,h,rfl⟩
theorem yW {L:zQ} {n:List UInt8} (h:xG L n=false):xF L n=[]:=by
 unfold xF
 cases hf:L.find? (fun p=>p.1 == n) with
 | none=>rfl
 | some q =>
  have h1:=List.mem_of_find?_eq_some hf
  have h2:=List.find?_some hf
  have:xG L n=true:=xE.2 ⟨q,h1,by simpa using h2⟩
  rw [h] at this; cases this
theorem qH {L:zQ} {a:List UInt8} (h:V8 L a=true):(Qj L a,a)∈L:=by
 unfold V8 at h
 unfold Qj
 obtain ⟨p,hp,e⟩:=List.any_eq_true.1 h
 cases hf:L.find? (fun p=>p.2 == a) with
 | none=>exact absurd e (by simpa using List.find?_eq_none.1 hf p hp)
 | some q =>
  have h1:=List.mem_of_find?_eq_some hf
  have h2:=List.find?_some hf
  have:q.2=a:=by simpa using h2
  rw [← this]; exact h1
theorem fX {L:zQ} {n a:List UInt8} (h:(n,a)∈L):V8 L a=true:=List.any_eq_true.2 ⟨_,h,by simp⟩
theorem ownO_none {L:zQ} {a:List UInt8} (h:V8 L a=false):Qj L a=[]:=by
 unfold Qj
 cases hf:L.find? (fun p=>p.2 == a) with
 | none=>rfl
 | some q =>
  have h1:=List.mem_of_find?_eq_some hf
  have h2:=List.find?_some hf
  have:V8 L a=true:=List.any_eq_true.2 ⟨q,h1,h2⟩
  rw [h] at this; cases this

theorem vb {L:zQ} {k v:List UInt8} {q:List UInt8×List UInt8}:q∈qP L k v↔q=(k,v)∨q∈L∧q.1≠k:=by
 unfold qP
 rw [JP,yZ]
theorem rise_ext {L M:zQ} (hl:uN L) (hm:uN M) (h:∀ q,q∈L↔q∈M):L=M:=by
 have hnl:L.Nodup:=hl.imp fun {a b} hb e=>by subst e; rw [zC] at hb; cases hb
 have hnm:M.Nodup:=hm.imp fun {a b} hb e=>by subst e; rw [zC] at hb; cases hb
 have hp:L.Perm M:=(List.perm_ext_iff_of_nodup hnl hnm).2 h
 refine List.Perm.eq_of_pairwise (le:=fun (p q:List UInt8×List UInt8)=>bytesBefore p.1 q.1=true) ?_ hl hm hp
 intro a b _ _ h1 h2
 rw [yy h1] at h2; cases h2

section
variable {L M:zQ}
theorem yt.nil:yt [] []:=⟨List.Pairwise.nil,List.Pairwise.nil,by simp⟩
theorem yt.length (h:yt L M):M.length=L.length:=by
 have hnl:L.Nodup:=h.rl.imp fun {a b} hb e=>by subst e; rw [zC] at hb; cases hb
 have hnm:M.Nodup:=h.rm.imp fun {a b} hb e=>by subst e; rw [zC] at hb; cases hb
 have hn2:(L.map fun p=>(p.2,p.1)).Nodup:=by
  unfold List.Nodup
  rw [List.pairwise_map]
  refine hnl.imp fun {a b} hb e=>hb ?_
  injection e with e1 e2
  exact Prod.ext e2 e1
 have:(L.map fun p=>(p.2,p.1)).Perm M:=(List.perm_ext_iff_of_nodup hn2 hnm).2 fun q=>by
  rw [List.mem_map]
  constructor
  ·
   rintro ⟨p,hp,rfl⟩
   exact (h.iff p.1 p.2).1 hp
  ·
   intro hq
   exact ⟨(q.2,q.1),(h.iff q.2 q.1).2 hq,rfl⟩
 have:=this.length_eq
 rw [List.length_map] at this
 exact this.symm
theorem yt.has (h:yt L M) (a:List UInt8):xG M a=V8 L a:=by
 cases hh:V8 L a
 ·
  cases hm:xG M a
  ·
   rfl
  ·
   have:=fX ((h.iff _ _).2 (xQ hm))
   rw [hh] at this; cases this
 ·
  exact Uo ((h.iff _ _).1 (qH hh))
theorem yt.get (h:yt L M) (a:List UInt8):xF M a=Qj L a:=by
 cases hh:V8 L a
 ·
  rw [ownO_none hh,yW (by rw [h.has,hh])]
 ·
  exact ZD h.rm ((h.iff _ _).1 (qH hh))
theorem yt.one (h:yt L M) {n k a:List UInt8} (h1:(n,a)∈L) (h2:(k,a)∈L):n=k:=Ud h.rm ((h.iff _ _).1 h1) ((h.iff _ _).1 h2)
theorem yt.own (h:yt L M) {n a:List UInt8} (h1:(n,a)∈L):Qj L a=n:=h.one (qH (fX h1)) h1
theorem yt.del (h:yt L M) {n:List UInt8} (hn:xG L n=true):yt (vK L n) (vK M (xF L n)):=by
 have hm:=xQ hn
 refine ⟨qB h.rl n,qB h.rm _,fun k b=>?_⟩
 rw [yZ,yZ]
 constructor
 ·
  rintro ⟨h1,h2⟩
  refine ⟨(h.iff _ _).1 h1,fun e=>h2 ?_⟩
  have e':b=xF L n:=e
  subst e'
  exact h.one h1 hm
 ·
  rintro ⟨h1,h2⟩
  have h1':=(h.iff _ _).2 h1
  refine ⟨h1',fun e=>h2 ?_⟩
  have e':k=n:=e
  subst e'
  exact Ud h.rl h1' hm
theorem yt.put (h:yt L M) {n a:List UInt8} (hn:xG L n=false) (ha:V8 L a=false):yt (qP L n a) (qP M a n):=by
 refine ⟨jD h.rl n a,jD h.rm a n,fun k b=>?_⟩
 rw [vb,vb]
 constructor
 ·
  rintro (e | ⟨h1,h2⟩)
  ·
   injection e with e1 e2; subst e1; subst e2; exact .inl rfl
  ·
   refine .inr ⟨(h.iff _ _).1 h1,fun e=>?_⟩
   have e':b=a:=e
   subst e'
   have:=fX h1
   rw [ha] at this; cases this
 ·
  rintro (e | ⟨h1,h2⟩)
  ·
   injection e with e1 e2; subst e1; subst e2; exact .inl rfl
  ·
   have h1':=(h.iff _ _).2 h1
   refine .inr ⟨h1',fun e=>?_⟩
   have e':k=n:=e
   subst e'
   have:=Uo h1'
   rw [hn] at this; cases this
end

theorem UD (L:zQ) (n:List UInt8):xG (vK L n) n=false:=by
 cases h:xG (vK L n) n
 ·
  rfl
 ·
  obtain ⟨p,hp,e⟩:=xE.1 h
  exact absurd e (yZ.1 hp).2
theorem Xh {L:zQ} {n k:List UInt8} (h:k≠n):xG (vK L n) k=xG L k:=by
 cases hh:xG L k
 ·
  cases hd:xG (vK L n) k
  ·
   rfl
  ·
   obtain ⟨p,hp,e⟩:=xE.1 hd
   have:xG L k=true:=xE.2 ⟨p,(yZ.1 hp).1,e⟩
   rw [hh] at this; cases this
 ·
  obtain ⟨p,hp,e⟩:=xE.1 hh
  exact xE.2 ⟨p,yZ.2 ⟨hp,fun e'=>h (e.symm.trans e')⟩,e⟩
theorem put_del {L:zQ} (h:uN L) (n a:List UInt8):qP (vK L n) n a=qP L n a:=by
 refine rise_ext (jD (qB h n) n a) (jD h n a) fun q=>?_
 rw [vb,vb,yZ]
 constructor
 ·
  rintro (e | ⟨⟨h1,_⟩,h2⟩)
  ·
   exact .inl e
  ·
   exact .inr ⟨h1,h2⟩
 ·
  rintro (e | ⟨h1,h2⟩)
  ·
   exact .inl e
  ·
   exact .inr ⟨⟨h1,h2⟩,h2⟩
theorem get_put {L:zQ} (h:uN L) (n a:List UInt8):xF (qP L n a) n=a:=ZD (jD h n a) (vb.2 (.inl rfl))
end Go.Proofs.YtmcomnocpibiiaaGreatDoor
namespace Go.Proofs.YtmcomnocpibiiaaGreatDoor
open Go.RowKit Go.Maps

theorem QR (x:UInt8):jQ (jQ x)=jQ x:=by
 cases h:inR 65 90 x with
 | false=>rw [jL h,jL h]
 | true =>
  obtain ⟨e,h1,h2⟩:=QQ h
  refine jL ?_
  unfold inR
  have:¬ (jQ x).toNat≤90:=by omega
  rw [decide_eq_false this,Bool.and_false]
theorem Y0 (l:List UInt8):zL (zL l)=zL l:=by
 unfold zL
 rw [List.map_map]
 exact List.map_congr_left fun x _=>QR x
theorem mail5_fold {l m:List UInt8} (h:zL l=zL m):yR l=yR m:=by
 unfold yR ZE
 have hl:l.length=m.length:=by rw [← vZ l,h,vZ]
 rw [h,hl]
theorem ZV (l:List UInt8):yR (zL l)=yR l:=mail5_fold (Y0 l)
theorem X5 {l:List UInt8} (h:yR l=true):l.length≤20:=by
 unfold yR at h
 simp only [Bool.and_eq_true,decide_eq_true_eq] at h
 exact h.1.1.1
theorem Qz:yR []=false:=by decide
theorem name5_len {n:List UInt8} (h:zf n=true):n.length≤12:=by
 unfold zf XY at h
 simp only [Bool.and_eq_true,decide_eq_true_eq] at h
 exact h.1.1.2.1

def May9 (x:List UInt8×List UInt8):Prop:=zf x.1=true∧yR x.2=true∧zL x.2=x.2
theorem May9.of {n m:List UInt8} (hn:zf n=true) (hm:yR m=true):May9 (n,zL m):=⟨hn,by rw [ZV]; exact hm,Y0 m⟩

structure vF (w:World) (p:Option Nat) (L:zQ):Prop where
 nil:p=none→L=[]
 map:∀ b,p=some b→Zd w b L
theorem vF.turns {w w':World} {p:Option Nat} {L:zQ} {S:Nat→Prop} (h:vF w p L) (ht:zm S w w') (hp:∀ b,p=some b→¬ S b):vF w' p L :=
 ⟨h.nil,fun b hb=>(h.map b hb).kept (ht.block b (h.map b hb).lt (hp b hb))⟩

section
variable {w:World} {p:Option Nat} {L:zQ}
theorem look9 (h:vF w p L) (s:ByteArray) (hs:s.size≤maxLen) :
  (Instr.lookup 138 (.map p) (.string s) true).run Tryz.prog w=.ok (.tuple #[.string (tx7 (xF L s.data.toList)),.bool (xG L s.data.toList)]) w:=by
 cases p with
 | none =>
  have hL:=h.nil rfl
  subst hL
  have:=Maps.look_nil (P:=Tryz.prog) (w:=w) (t:=138) true QA Tryz.underlying138 (zero7 w) (key7 s hs)
  exact this
 | some b =>
  obtain ⟨v,ps,hrun,hv⟩:=(h.map b rfl).look_ok QA Tryz.underlying138 (zero7 w) (plainElem_string (H:=Unit) Tryz.underlying9 (s:=⟨#[]⟩) (by decide)) (key7 s hs)
  obtain ⟨c,rfl,hc,_⟩:=plainElem_string_inv Tryz.underlying9 hv
  rw [hrun,datE_has]
  have e:(J3 L).atKey (.string s.data.toList) (.lit (.string []))=.lit (.string (xF L s.data.toList)):=datE_at L _
  have hc':(J3 L).atKey (.string s.data.toList) (.lit (.string []))=.lit (.string c.data.toList):=congrArg Prod.fst hc
  rw [e] at hc'
  have:xF L s.data.toList=c.data.toList:=by simpa using hc'
  rw [this,Yj]
theorem drop9 (h:vF w p L) (s:ByteArray) (hs:s.size≤maxLen) (ty:TypeId) :
  ∃ w',(Builtin.delete_ #[138,9] ty #[.map p,.string s]).run Tryz.prog w=.ok (.tuple #[]) w'∧vF w' p (vK L s.data.toList)∧zm (fun i=>p=some i) w w':=by
 cases p with
 | none =>
  have hL:=h.nil rfl
  subst hL
  exact ⟨w,Maps.drop_nil QA Tryz.underlying138 (key7 s hs) ty,⟨fun _=>rfl,(fun _ h=>nomatch h)⟩,zm.refl _ w⟩
 | some b =>
  obtain ⟨w',hrun,hown,ht⟩:=(h.map b rfl).drop QA Tryz.underlying138 (key7 s hs) ty
  rw [datE_del] at hown
  exact ⟨w',hrun,⟨(fun h=>nomatch h),fun b' hb'=>by cases hb'; exact Zd.of hown⟩,(zm.refl _ w).grown ht.grown (fun k hk _=>hk.symm ▸ rfl)⟩
theorem nilmap9 (w:World) (p:Option Nat):(binOp .eql 138 (.map p) (.map none)).run Tryz.prog w=.ok (.bool p.isNone) w :=
 run_eql_map_nil_sl w 138 _ _ p Tryz.underlying138
end

def Jg (W:World) (b:Nat) (L':zQ) (st val:Value):Prop :=
 ∃ o,W.heap[b]? = some o∧∀ W2:World,W2.heap[b]? = some o→∃ W3,(Instr.entryStore 138 (.map (some b)) st val).run Tryz.prog W2=.ok () W3∧Zd W3 b L'∧W2.mapTurned W3 b
theorem half9 {W:World} {b:Nat} {L:zQ} (h:Zd W b L) (hf:L.length≤1000) (k v:ByteArray) (hk:k.size≤maxLen) (hv:v.size≤maxLen) :
  ∃ (v0:Value) (st:Nat) (W1:World),(Instr.mapEntry 138 (.map (some b)) (.string k)).run Tryz.prog W=.ok (.tuple #[v0,.int .i64 (st:Int)]) W1∧Jg W1 b (qP L k.data.toList v.data.toList) (.int .i64 (st:Int)) (.string v)∧W.mapTurned W1 b:=by
 obtain ⟨w',hrun,hown,_⟩:=h.store QA Tryz.underlying138 (Nat.lt_of_le_of_lt hf (by decide)) (key7 k hk) (plainElem_string (H:=Unit) Tryz.underlying9 hv)
 rw [datE_put] at hown
 have hM:=Zd.of hown
 obtain ⟨es,clock,hb,F,_,_⟩:=h
 obtain ⟨v0,st,es1,clock1,h1,_,h3⟩:=WideElems.entry_then_store (t:=138) (WideMaps.string_law Tryz.underlying9) Tryz.underlying138 (z:=.string ⟨#[]⟩) (fun u=>zero7 u) hb F (key7 k hk)
 refine ⟨v0,st,_,h1,⟨_,ChangeMaps.heap_setBlock_same hb _,fun W2 hW2=>?_⟩,⟨es,clock,es1,clock1,hb,rfl⟩⟩
 obtain ⟨es',clock',r1,r2⟩:=h3 W2 (.string v) hW2
 rw [hrun] at r2
 injection r2 with _ r2
 refine ⟨_,r1,hM.kept ?_,⟨es1,clock1,es',clock',hW2,rfl⟩⟩
 rw [ChangeMaps.heap_setBlock_same hW2,r2,ChangeMaps.heap_setBlock_same hb]
theorem Jg.kept {W W':World} {b:Nat} {L':zQ} {st val:Value} (h:Jg W b L' st val) (hb:W'.heap[b]? = W.heap[b]?):Jg W' b L' st val:=by
 obtain ⟨o,h1,h2⟩:=h
 exact ⟨o,hb.trans h1,h2⟩

structure vL (w:World) (B:Nat) (p q:Option Nat) (L M:zQ):Prop where
 blk:w.heap[B]? = some (.cells #[.map p,.map q] 140 (0,0))
 mapp:vF w p L
 mapq:vF w q M
 both:p.isSome=q.isSome
 apt:∀ b c,p=some b→q=some c→b≠c
 mir:yt L M
 few:L.length≤100
 all:∀ x∈L,May9 x

section
variable {w w':World} {B:Nat} {p q:Option Nat} {L M:zQ}
theorem vL.lt (h:vL w B p q L M):B<w.heap.size:=(Array.getElem?_eq_some_iff.1 h.blk).1
theorem vL.plt (h:vL w B p q L M):∀ b,p=some b→b<w.heap.size:=fun b hb=>(h.mapp.map b hb).lt
theorem vL.qlt (h:vL w B p q L M):∀ b,q=some b→b<w.heap.size:=fun b hb=>(h.mapq.map b hb).lt
theorem vL.cell0 (h:vL w B p q L M):w.cell? ⟨B,0,none⟩=some (.map p):=by simp [World.cell?,h.blk]
theorem vL.cell1 (h:vL w B p q L M):w.cell? ⟨B,1,none⟩=some (.map q):=by simp [World.cell?,h.blk]
theorem vL.frozen0 (h:vL w B p q L M):w.frozen? ⟨B,0,none⟩=false:=by simp [World.frozen?,h.blk]
theorem vL.frozen1 (h:vL w B p q L M):w.frozen? ⟨B,1,none⟩=false:=by simp [World.frozen?,h.blk]
theorem uR {b:Nat} {L:zQ} {c:Array Value} {T:TypeId} {fr:Nat×Nat} (hm:Zd w b L) (hB:w.heap[B]? = some (.cells c T fr)):b≠B:=fun e=>by
 obtain ⟨es,clock,h1,_⟩:=hm
 subst e
 rw [hB] at h1
 cases h1
theorem vL.pne (h:vL w B p q L M):∀ b,p=some b→b≠B:=fun b hb=>uR (h.mapp.map b hb) h.blk
theorem vL.qne (h:vL w B p q L M):∀ b,q=some b→b≠B:=fun b hb=>uR (h.mapq.map b hb) h.blk
theorem vL.turns {S:Nat→Prop} (h:vL w B p q L M) (ht:zm S w w') (hB:¬ S B) (hp:∀ b,p=some b→¬ S b) (hq:∀ b,q=some b→¬ S b):vL w' B p q L M :=
 ⟨(ht.block B h.lt hB).trans h.blk,h.mapp.turns ht hp,h.mapq.turns ht hq,h.both,h.apt,h.mir,h.few,h.all⟩
theorem vL.later (h:vL w B p q L M) (hb:Below w.heap.size w w'):vL w' B p q L M:=h.turns (zm.of_below hb (fun _=>False)) (fun f=>f) (fun _ _ f=>f) (fun _ _ f=>f)
theorem vL.rise (h:vL w B p q L M):uN L:=h.mir.rl
end

def Jd (B:Nat) (p q:Option Nat) (w w':World):Prop:=zm (fun i=>i=B∨p=some i∨q=some i) w w'
def vG (w:World) (B:Nat) (p q:Option Nat) (L':zQ) (w':World):Prop :=
 ∃ p' q' M',vL w' B p' q' L' M'∧(∀ b,p'=some b→p=some b∨w.heap.size≤b)∧(∀ b,q'=some b→q=some b∨w.heap.size≤b)∧Jd B p q w w'
theorem vG.still {w w':World} {B:Nat} {p q:Option Nat} {L M:zQ} (h:vL w B p q L M) (hb:Below w.heap.size w w'):vG w B p q L w' :=
 ⟨p,q,M,h.later hb,fun _ e=>.inl e,fun _ e=>.inl e,zm.of_below hb _⟩
theorem vG.ahead {w w1 w':World} {B:Nat} {p q:Option Nat} {L':zQ} (hb:Below w.heap.size w w1) (h:vG w1 B p q L' w'):vG w B p q L' w':=by
 obtain ⟨p',q',M',hd,hp,hq,ht⟩:=h
 exact ⟨p',q',M',hd,fun b e=>(hp b e).imp id (fun h=>Nat.le_trans hb.size h),fun b e=>(hq b e).imp id (fun h=>Nat.le_trans hb.size h),(zm.of_below hb _).next ht (fun i _ h=>h)⟩
theorem vG.behind {w w1 w':World} {B:Nat} {p q:Option Nat} {L':zQ} (h:vG w B p q L' w1) (hb:Below w1.heap.size w1 w'):vG w B p q L' w':=by
 obtain ⟨p',q',M',hd,hp,hq,ht⟩:=h
 exact ⟨p',q',M',hd.later hb,hp,hq,zm.next ht (zm.of_below hb (fun _=>False)) (fun _ _ f=>f.elim)⟩

set_option maxRecDepth 100000 in
theorem new9_calls (w:World):Calls Tryz.prog 43 #[] w fun e w'=>e=.returned (.pointer (some ⟨w.heap.size,0,none⟩))∧w'=w.alloc (.cells #[.map none,.map none] 140):=by
 go_enter Tryz.func43,Tryz.ntmps43
 go_wp2
 go_ret
 exact ⟨rfl,rfl⟩
theorem idx9_new (w:World):vL (w.alloc (.cells #[.map none,.map none] 140)) w.heap.size none none [] [] :=
 ⟨(MapKept.heap_alloc w _).1,⟨fun _=>rfl,(fun _ h=>nomatch h)⟩,⟨fun _=>rfl,(fun _ h=>nomatch h)⟩,rfl,(fun _ _ h=>nomatch h),yt.nil,by simp,(fun _ h=>nomatch h)⟩

set_option maxRecDepth 100000 in
theorem of9_calls (B:Nat) (p q:Option Nat) (L M:zQ) (s:ByteArray) (w:World) (h:vL w B p q L M) (hs:s.size≤maxLen) :
  Calls Tryz.prog 140 #[.pointer (some ⟨B,0,none⟩),.string s] w fun e w'=>e=.returned (.tuple #[.string (tx7 (xF L s.data.toList)),.bool (xG L s.data.toList)])∧w'=w:=by
 have hc:=h.cell0
 have hl:=look9 h.mapp s hs
 generalize xG L s.data.toList=r at *
 generalize tx7 (xF L s.data.toList)=g at *
 clear h hs
 go_enter Tryz.func140,Tryz.ntmps140
 go_wp2
 go_ret2
 exact ⟨rfl,rfl⟩

theorem fz.move9 {cs:List Nat} {St St':Nat→World→Prop} {L:Nat→Bool} {W W':World} (h:fz cs St L W) (q i:Nat) (hq:q<cs.length) (hi:cs.getD q 0=i) (hL:L i=false) (hp:q=0∨L (cs.getD (q - 1) 0)=true)
  (hnd:(List.range cs.length).all (fun r=>r == q || cs.getD r 0 != i)=true) (hS:St' (q+1) W'):fz cs St' (vm L i) W':=by
 obtain ⟨m,hm,hs,hr⟩:=h
 have h1:¬ q<m:=by have:=hr q hq; rw [hi,hL] at this; simpa using this.symm
 have h2:m=q:=by
  rcases hp with rfl | hp
  ·
   omega
  ·
   have:=hr (q - 1) (by omega)
   rw [hp] at this
   have:q - 1<m:=by simpa using this.symm
   omega
 subst h2
 have hX:fz cs (fun k V=>k=m+1→St' k V) L W':=⟨m,hm,fun e=>absurd e (by omega),hr⟩
 obtain ⟨k,hk,hs',hr'⟩:=hX.next m i hq hi hL hp hnd (fun _=>hS)
 have hkm:k=m+1:=by
  have e1:=hr' m hq
  rw [hi,show vm L i i=true from if_pos rfl] at e1
  have e1':m<k:=by simpa using e1.symm
  by_cases hlt:m+1<cs.length
  ·
   have h3:=List.all_eq_true.1 hnd (m+1) (List.mem_range.2 hlt)
   have e2:=hr' (m+1) hlt
   have hne:cs.getD (m+1) 0≠i:=by
    have e1:((m+1) == m)=false:=by simp
    rw [e1,Bool.false_or,bne_iff_ne] at h3
    exact h3
   rw [show vm L i (cs.getD (m+1) 0)=L (cs.getD (m+1) 0) from if_neg hne,hr (m+1) hlt] at e2
   have:¬ m+1<k:=by
    have e3:decide (m+1<m)=false:=by simp
    rw [e3] at e2
    simpa using e2.symm
   omega
  ·
   omega
 subst hkm
 exact ⟨m+1,hk,hs' rfl,hr'⟩
theorem fz.done9 {cs:List Nat} {St:Nat→World→Prop} {L:Nat→Bool} {W:World} (h:fz cs St L W) (hall:∀ r,r<cs.length→L (cs.getD r 0)=true):St cs.length W:=by
 obtain ⟨m,hm,hs,hr⟩:=h
 by_cases e:m=cs.length
 ·
  rw [← e]; exact hs
 ·
  have h1:=hr m (by omega)
  rw [hall m (by omega)] at h1
  simp at h1

set_option maxRecDepth 100000 in
theorem qK (B:Nat) (p q:Option Nat) (L M:zQ) (s:ByteArray) (w:World) (h:vL w B p q L M) (hs:s.size≤maxLen) :
  Calls Tryz.prog 90 #[.pointer (some ⟨B,0,none⟩),.string s] w fun e w'=>e=.returned (.bool (xG L s.data.toList))∧(∃ M',vL w' B p q (vK L s.data.toList) M')∧Jd B p q w w':=by
 have hl:=look9 h.mapp s hs
 have c0:=h.cell0
 cases hh:xG L s.data.toList with
 | false =>
  rw [hh] at hl
  have HF:Hid ((∃ M',vL w B p q (vK L s.data.toList) M')∧Jd B p q w w):=⟨⟨M,by rw [qu hh]; exact h⟩,zm.refl _ w⟩
  clear h
  generalize tx7 (xF L s.data.toList)=g at *
  go_enter Tryz.func90,Tryz.ntmps90
  go_wp2
  go_ret
  exact ⟨rfl,HF.out⟩
 | true =>
  rw [hh] at hl
  have hmem:=xQ hh
  have hmay:=h.all _ hmem
  have hgs:(tx7 (xF L s.data.toList)).size≤maxLen:=by
   show (xF L s.data.toList).toArray.size≤_
   rw [List.size_toArray]; exact Nat.le_trans (X5 hmay.2.1) (by decide)
  obtain ⟨w1,r1,m1,t1⟩:=drop9 h.mapp s hs 0
  have hB1:w1.heap[B]? = _:=(t1.block B h.lt (fun e=>h.pne _ e rfl)).trans h.blk
  have c1:w1.cell? ⟨B,1,none⟩=some (.map q):=by simp [World.cell?,hB1]
  have q1:vF w1 q M:=h.mapq.turns t1 (fun b hb e=>h.apt b b e hb rfl)
  obtain ⟨w2,r2,m2,t2⟩:=drop9 q1 (tx7 (xF L s.data.toList)) hgs 0
  have ht:Jd B p q w w2:=(t1.mono (fun i _ e=>.inr (.inl e))).next t2 (fun i _ e=>.inr (.inr e))
  have HF:Hid ((∃ M',vL w2 B p q (vK L s.data.toList) M')∧Jd B p q w w2):=by
   rw [jA] at m2
   refine ⟨⟨_,⟨(t2.block B (Nat.lt_of_lt_of_le h.lt t1.size) (fun e=>h.qne _ e rfl)).trans hB1,m1.turns t2 (fun b hb e=>h.apt b b hb e rfl),m2,h.both,h.apt,h.mir.del hh,?_,fun x hx=>h.all x (yZ.1 hx).1⟩⟩,ht⟩
   exact Nat.le_trans (List.length_filter_le _ _) h.few
  clear h hB1 q1 m1 m2 t1 t2 ht hmem hmay hgs
  generalize tx7 (xF L s.data.toList)=g at *
  go_enter Tryz.func90,Tryz.ntmps90
  go_wp2
  go_ret
  exact ⟨rfl,HF.out⟩

def YPut9 (B b c:Nat) (n a:ByteArray):Nat→Value→Prop
 | 2,v=>v=.pointer (some ⟨B,0,none⟩)
 | 3,v=>v=.map (some b)
 | 4,v=>v=.string n
 | 7,v=>v=.pointer (some ⟨B,1,none⟩)
 | 8,v=>v=.map (some c)
 | 9,v=>v=.string a
 | 10,v=>v=.string a
 | 11,v=>v=.string n
 | _,v=>v=.pointer (some ⟨B,0,none⟩)
def StPut9 (b c:Nat) (L M L' M':zQ) (n a:ByteArray) (x12 x15:Value):Nat→World→Prop
 | 0,W=>Zd W b L∧Zd W c M
 | 1,W=>(∃ (v0:Value) (st:Nat),x12=.tuple #[v0,.int .i64 (st:Int)]∧Jg W b L' (.int .i64 (st:Int)) (.string a))∧Zd W c M
 | 2,W=>Zd W b L'∧Zd W c M
 | 3,W=>Zd W b L'∧∃ (v0:Value) (st:Nat),x15=.tuple #[v0,.int .i64 (st:Int)]∧Jg W c M' (.int .i64 (st:Int)) (.string n)
 | _,W=>Zd W b L'∧Zd W c M'
structure Yg (w1:World) (B b c:Nat) (L M L' M':zQ) (n a:ByteArray) (D:Nat→Bool) (x:Nat→Value) (W:World):Prop where
 y:∀ j,j<12→D j=true→YPut9 B b c n a j (x j)
 e12:D 12=true→∃ (v0:Value) (st:Nat),x 12=.tuple #[v0,.int .i64 (st:Int)]
 e15:D 15=true→∃ (v0:Value) (st:Nat),x 15=.tuple #[v0,.int .i64 (st:Int)]
 e13:D 13=true→D 12=true∧∃ v0,x 12=.tuple #[v0,x 13]
 e16:D 16=true→D 15=true∧∃ v0,x 15=.tuple #[v0,x 16]
 t:zm (fun i=>i=b∨i=c) w1 W
 s:fz [12,14,15,17] (StPut9 b c L M L' M' n a (x 12) (x 15)) D W

section
variable {w1:World} {B b c:Nat} {L M L' M':zQ} {n a:ByteArray} {D:Nat→Bool} {x:Nat→Value} {W W':World}
theorem Yg.start (x:Nat→Value) (hb:Zd w1 b L) (hc:Zd w1 c M):Yg w1 B b c L M L' M' n a (fun _=>false) x w1.drew :=
 ⟨(fun _ _ h=>nomatch h),(fun h=>nomatch h),(fun h=>nomatch h),(fun h=>nomatch h),(fun h=>nomatch h),(zm.refl _ w1).drew,fz.start ⟨hb,hc⟩⟩
theorem Yg.quiet (h:Yg w1 B b c L M L' M' n a D x W) (i:Nat) (v:Value) (hi:[12,14,15,17].contains i=false) (hy:i<12→YPut9 B b c n a i v)
  (h13:i=13→D 12=true∧∃ v0,x 12=.tuple #[v0,v]) (h16:i=16→D 15=true∧∃ v0,x 15=.tuple #[v0,v]):Yg w1 B b c L M L' M' n a (vm D i) (upd x i v) W:=by
 have n12:12≠i:=fun e=>by subst e; simp at hi
 have n15:15≠i:=fun e=>by subst e; simp at hi
 have u12:upd x i v 12=x 12:=if_neg n12
 have u15:upd x i v 15=x 15:=if_neg n15
 have d12:vm D i 12=D 12:=if_neg n12
 have d15:vm D i 15=D 15:=if_neg n15
 refine ⟨fun j hj hd=>?_,fun hd=>?_,fun hd=>?_,fun hd=>?_,fun hd=>?_,h.t,?_⟩
 ·
  by_cases e:j=i
  ·
   subst e; rw [show upd x j v j=v from if_pos rfl]; exact hy hj
  ·
   rw [show upd x i v j=x j from if_neg e]; rw [show vm D i j=D j from if_neg e] at hd; exact h.y j hj hd
 ·
  rw [u12]; rw [d12] at hd; exact h.e12 hd
 ·
  rw [u15]; rw [d15] at hd; exact h.e15 hd
 ·
  rw [u12,d12]
  by_cases e:13=i
  ·
   subst e; rw [show upd x 13 v 13=v from if_pos rfl]; exact h13 rfl
  ·
   rw [show upd x i v 13=x 13 from if_neg e]; rw [show vm D i 13=D 13 from if_neg e] at hd; exact h.e13 hd
 ·
  rw [u15,d15]
  by_cases e:16=i
  ·
   subst e; rw [show upd x 16 v 16=v from if_pos rfl]; exact h16 rfl
  ·
   rw [show upd x i v 16=x 16 from if_neg e]; rw [show vm D i 16=D 16 from if_neg e] at hd; exact h.e16 hd
 ·
  rw [u12,u15]; exact h.s.same i hi (fun _ h=>h)
theorem U2 {W W':World} {b i:Nat} (ht:W.mapTurned W' b) (hne:i≠b):W'.heap[i]? = W.heap[i]? := Q1 ht (fun e=>hne e.symm)
theorem Yg.turn (h:Yg w1 B b c L M L' M' n a D x W) {k:Nat} (hk:k=b∨k=c) (ht:W.mapTurned W' k):zm (fun i=>i=b∨i=c) w1 W' :=
 h.t.grown ht.grown (fun j hj _=>by cases hj; exact hk)
theorem Yg.y2 (h:Yg w1 B b c L M L' M' n a D x W) (i:Nat) (v:Value) (hi:¬ i<12):∀ j,j<12→vm D i j=true→YPut9 B b c n a j (upd x i v j):=fun j hj hd=>by
 have e:j≠i:=fun e=>hi (e ▸ hj)
 rw [show upd x i v j=x j from if_neg e]; rw [show vm D i j=D j from if_neg e] at hd; exact h.y j hj hd
theorem Yg.at12 (h:Yg w1 B b c L M L' M' n a D x W) (hD:D 12=false) {v0:Value} {st:Nat} (hH:Jg W' b L' (.int .i64 (st:Int)) (.string a)) (ht:W.mapTurned W' b) (hbc:b≠c) :
  Yg w1 B b c L M L' M' n a (vm D 12) (upd x 12 (.tuple #[v0,.int .i64 (st:Int)])) W':=by
 have u12:upd x 12 (.tuple #[v0,.int .i64 (st:Int)]) 12=.tuple #[v0,.int .i64 (st:Int)]:=if_pos rfl
 have hs:=h.s.at_ 0 (by decide) hD (.inl rfl)
 refine ⟨h.y2 12 _ (by decide),fun _=>⟨v0,st,u12⟩,fun hd=>h.e15 hd,fun hd=>?_,fun hd=>h.e16 hd,h.turn (.inl rfl) ht,?_⟩
 ·
  have:=(h.e13 hd).1
  rw [hD] at this; cases this
 ·
  refine h.s.move9 0 12 (by decide) rfl hD (.inl rfl) (by decide) ⟨⟨v0,st,u12,hH⟩,hs.2.kept (U2 ht hbc.symm)⟩
theorem Yg.at14 (h:Yg w1 B b c L M L' M' n a D x W) (hD:D 14=false) (h12:D 12=true) {v:Value} (hm:Zd W' b L') (ht:W.mapTurned W' b) (hbc:b≠c) :
  Yg w1 B b c L M L' M' n a (vm D 14) (upd x 14 v) W':=by
 have hs:=h.s.at_ 1 (by decide) hD (.inr h12)
 refine ⟨h.y2 14 _ (by decide),fun hd=>h.e12 hd,fun hd=>h.e15 hd,fun hd=>h.e13 hd,fun hd=>h.e16 hd,h.turn (.inl rfl) ht,?_⟩
 exact h.s.move9 1 14 (by decide) rfl hD (.inr h12) (by decide) ⟨hm,hs.2.kept (U2 ht hbc.symm)⟩
theorem Yg.at15 (h:Yg w1 B b c L M L' M' n a D x W) (hD:D 15=false) (h14:D 14=true) {v0:Value} {st:Nat} (hH:Jg W' c M' (.int .i64 (st:Int)) (.string n)) (ht:W.mapTurned W' c) (hbc:b≠c) :
  Yg w1 B b c L M L' M' n a (vm D 15) (upd x 15 (.tuple #[v0,.int .i64 (st:Int)])) W':=by
 have u15:upd x 15 (.tuple #[v0,.int .i64 (st:Int)]) 15=.tuple #[v0,.int .i64 (st:Int)]:=if_pos rfl
 have hs:=h.s.at_ 2 (by decide) hD (.inr h14)
 refine ⟨h.y2 15 _ (by decide),fun hd=>h.e12 hd,fun _=>⟨v0,st,u15⟩,fun hd=>h.e13 hd,fun hd=>?_,h.turn (.inr rfl) ht,?_⟩
 ·
  have:=(h.e16 hd).1
  rw [hD] at this; cases this
 ·
  exact h.s.move9 2 15 (by decide) rfl hD (.inr h14) (by decide) ⟨hs.1.kept (U2 ht hbc),⟨v0,st,u15,hH⟩⟩
theorem Yg.at17 (h:Yg w1 B b c L M L' M' n a D x W) (hD:D 17=false) (h15:D 15=true) {v:Value} (hm:Zd W' c M') (ht:W.mapTurned W' c) (hbc:b≠c) :
  Yg w1 B b c L M L' M' n a (vm D 17) (upd x 17 v) W':=by
 have hs:=h.s.at_ 3 (by decide) hD (.inr h15)
 refine ⟨h.y2 17 _ (by decide),fun hd=>h.e12 hd,fun hd=>h.e15 hd,fun hd=>h.e13 hd,fun hd=>h.e16 hd,h.turn (.inr rfl) ht,?_⟩
 exact h.s.move9 3 17 (by decide) rfl hD (.inr h15) (by decide) ⟨hs.1.kept (U2 ht hbc),hm⟩
end

theorem blk_set0 {W:World} {B:Nat} {u v:Value} {T:TypeId} (v':Value) (h:W.heap[B]? = some (.cells #[u,v] T (0,0))):(W.setCell ⟨B,0,none⟩ v').heap[B]? = some (.cells #[v',v] T (0,0)):=by
 obtain ⟨hlt,hk⟩:=Array.getElem?_eq_some_iff.1 h
 show (W.heap.modify B _)[B]? = _
 rw [Array.getElem?_eq_getElem (by rw [Array.size_modify]; exact hlt),Array.getElem_modify_self,hk]
 rfl
theorem blk_set1 {W:World} {B:Nat} {u v:Value} {T:TypeId} (v':Value) (h:W.heap[B]? = some (.cells #[u,v] T (0,0))):(W.setCell ⟨B,1,none⟩ v').heap[B]? = some (.cells #[u,v'] T (0,0)):=by
 obtain ⟨hlt,hk⟩:=Array.getElem?_eq_some_iff.1 h
 show (W.heap.modify B _)[B]? = _
 rw [Array.getElem?_eq_getElem (by rw [Array.size_modify]; exact hlt),Array.getElem_modify_self,hk]
 rfl

set_option maxRecDepth 100000 in
theorem Vu (B:Nat) (p q:Option Nat) (L M:zQ) (n a:ByteArray) (w:World) (h:vL w B p q L M) (hm:May9 (n.data.toList,a.data.toList)) (hfree:V8 (vK L n.data.toList) a.data.toList=false) (hf:(qP L n.data.toList a.data.toList).length≤100) :
  Calls Tryz.prog 180 #[.pointer (some ⟨B,0,none⟩),.string n,.string a] w fun e w'=>e=.returned (.tuple #[])∧vG w B p q (qP L n.data.toList a.data.toList) w':=by
 have hn':n.size≤maxLen:=by have:=name5_len hm.1; rw [zx] at this; exact Nat.le_trans this (by decide)
 have ha':a.size≤maxLen:=by have:=X5 hm.2.1; rw [zx] at this; exact Nat.le_trans this (by decide)
 have HD:=za (qK B p q L M n w h hn')
 have hall:∀ y∈qP L n.data.toList a.data.toList,May9 y:=fun y hy=>by
  rcases vb.1 hy with rfl | ⟨hy,_⟩
  ·
   exact hm
  ·
   exact h.all y hy
 have hpd:=put_del h.rise n.data.toList a.data.toList
 have HPD:Hid (qP (vK L n.data.toList) n.data.toList a.data.toList=qP L n.data.toList a.data.toList):=hpd
 have HF:Hid ((vK L n.data.toList).length≤1000):=Nat.le_trans (List.length_filter_le _ _) (Nat.le_trans h.few (by decide))
 have HALL:=za hall
 have HLN:=za hf
 have hlt0:=h.lt
 have hlp:=h.plt
 have hlq:=h.qlt
 clear h hm hall hpd hf
 go_enter Tryz.func180,Tryz.ntmps180
 go_wp2_with fail
 with_reducible refine HD.out.mono ?_
 rintro e w1 ⟨rfl,⟨M1,hi⟩,ht⟩
 have HI:=za hi
 have HT:=za ht
 have hfr:V8 (vK L n.data.toList) a.data.toList=false:=hfree
 have hmir:=hi.mir.put (UD L n.data.toList) hfr
 rw [HPD.out] at hmir
 have HMIR:=za hmir
 have HG:Hid (M1.length≤1000):=by show _≤_; rw [hi.mir.length]; exact HF.out
 have hq:=nilmap9 w1 p
 have hc0:=hi.cell0
 clear ht hmir hfr HD
 cases p with
 | none =>
  have hqn:q=none:=by
   have:=hi.both
   cases q with
   | none=>rfl
   | some c=>cases this
  subst hqn
  have hL1:=hi.mapp.nil rfl
  have hM1:=hi.mapq.nil rfl
  have f0:=hi.frozen0
  have f1:=hi.frozen1
  have hc1:=hi.cell1
  have hblk:=hi.blk
  have hblt:=hi.lt
  have hmm:=@run_makeMap Tryz.prog
  have hs0:((w1.setCell ⟨B,0,none⟩ (.map (some w1.heap.size))).setCell ⟨B,1,none⟩ (.map (some (w1.heap.size+1)))).heap.size=w1.heap.size:=by simp [World.setCell]
  have hb0:=blk_set1 (.map (some (w1.heap.size+1))) (blk_set0 (.map (some w1.heap.size)) hblk)
  have hb2:(((w1.setCell ⟨B,0,none⟩ (.map (some w1.heap.size))).setCell ⟨B,1,none⟩ (.map (some (w1.heap.size+1)))).alloc (.map #[] 0)).heap[B]? = _:=(Below.heap_alloc _ _ B (by omega)).trans hb0
  have hb3:((((w1.setCell ⟨B,0,none⟩ (.map (some w1.heap.size))).setCell ⟨B,1,none⟩ (.map (some (w1.heap.size+1)))).alloc (.map #[] 0)).alloc (.map #[] 0)).heap[B]? = _:=(Below.heap_alloc _ _ B (by simp; omega)).trans hb2
  have m1:=World.ownsMap_made (H:=Unit) ((w1.setCell ⟨B,0,none⟩ (.map (some w1.heap.size))).setCell ⟨B,1,none⟩ (.map (some (w1.heap.size+1)))) Tryz.prog 9 (plainElem Tryz.prog 9)
  have m2:=World.ownsMap_made (H:=Unit) (((w1.setCell ⟨B,0,none⟩ (.map (some w1.heap.size))).setCell ⟨B,1,none⟩ (.map (some (w1.heap.size+1)))).alloc (.map #[] 0)) Tryz.prog 9 (plainElem Tryz.prog 9)
  have m1':=m1.alloc (.map #[] 0)
  rw [hs0] at m1'
  rw [World.size_alloc,hs0] at m2
  have e0:(.map []:DataW Unit)=J3 []:=rfl
  rw [e0] at m1' m2
  have hT2:zm (fun i=>i=B) w1 ((((w1.setCell ⟨B,0,none⟩ (.map (some w1.heap.size))).setCell ⟨B,1,none⟩ (.map (some (w1.heap.size+1)))).alloc (.map #[] 0)).alloc (.map #[] 0)):=((((zm.refl (fun i=>i=B) w1).setCell (p:=⟨B,0,none⟩) (fun _=>rfl) _).setCell (p:=⟨B,1,none⟩) (fun _=>rfl) _).alloc _).alloc _
  have hB1:=Zd.of (L:=[]) m1'
  rw [← hL1] at hB1
  have hB2:=Zd.of (L:=[]) m2
  rw [← hM1] at hB2
  have HB1:=za hB1
  have HB2:=za hB2
  clear hB1 hB2
  have hz:((((w1.setCell ⟨B,0,none⟩ (.map (some w1.heap.size))).setCell ⟨B,1,none⟩ (.map (some (w1.heap.size+1)))).alloc (.map #[] 0)).alloc (.map #[] 0)).heap.size=w1.heap.size+2:=by rw [World.size_alloc,World.size_alloc,hs0]
  clear m1 m2 m1' e0 hb2 hb0 hs0 hi hlp hlq
  go_wp2
  clear hc0 hc1 hq f0 f1 hmm hblk
  generalize ((((w1.setCell ⟨B,0,none⟩ (.map (some w1.heap.size))).setCell ⟨B,1,none⟩ (.map (some (w1.heap.size+1)))).alloc (.map #[] 0)).alloc (.map #[] 0))=w2 at *
  have hsz:=HT.out.size
  generalize hc:w1.heap.size+1=c at *
  generalize hb:w1.heap.size=b at *
  have hbc:b≠c:=by omega
  have HBL:Hid (B<w2.heap.size):=by show _<_; omega
  have HBN:Hid (¬ (B=b∨B=c)):=by show ¬ _; omega
  have HC0:Hid (w2.cell? ⟨B,0,none⟩=some (.map (some b))):=by show _=_; simp [World.cell?,hb3]
  have HC1:Hid (w2.cell? ⟨B,1,none⟩=some (.map (some c))):=by show _=_; simp [World.cell?,hb3]
  have HEND:Hid (∀ W,zm (fun i=>i=b∨i=c) w2 W→Zd W b (qP L n.data.toList a.data.toList)→Zd W c (qP M1 a.data.toList n.data.toList)→vG w B none none (qP L n.data.toList a.data.toList) W):=fun W hW h1 h2=>by
   refine ⟨some b,some c,_,⟨(hW.block B HBL.out HBN.out).trans hb3,⟨(fun h=>nomatch h),fun b' e=>by cases e; exact h1⟩,⟨(fun h=>nomatch h),fun b' e=>by cases e; exact h2⟩,rfl,(fun _ _ e1 e2=>by cases e1; cases e2; exact hbc),HMIR.out,HLN.out,HALL.out⟩,(fun _ e=>.inr (by cases e; omega)),(fun _ e=>.inr (by cases e; omega)),?_⟩
   exact (HT.out.next hT2 (fun i _ e=>.inl e)).next hW (fun i hi e=>by omega)
  clear HI HT HMIR HLN HALL hT2 hb3 hL1 hM1
  refine xL (by kernel_rfl) (Yg w2 B b c (vK L n.data.toList) M1 (qP L n.data.toList a.data.toList) (qP M1 a.data.toList n.data.toList) n a) ?F ?hF (by kernel_rfl) (by kernel_rfl) (fun x=>Yg.start x HB1.out HB2.out) ?step ?fin
  case hF =>
   intro x
   simp only [List.map_cons,List.map_nil,vI,Act.put,List.setIfInBounds_toArray,List.set_cons_zero,List.set_cons_succ,Nat.zero_add,Nat.reduceAdd]
   exact rfl
  case step =>
   rw [← HPD.out]
   refine ⟨?_,?_,?_,?_,?_,?_,?_,?_,?_,?_,?_,?_,?_,?_,?_,?_,?_,?_,trivial⟩
   ·
    intro D x W hi hd hI K hK
    clear hd
    go_simp
    exact hK _ _ (hI.quiet 0 _ rfl (fun _=>rfl) (fun h=>absurd h (by decide)) (fun h=>absurd h (by decide)))
   ·
    intro D x W hi hd hI K hK
    have h0:x 0=_:=hI.y 0 (by decide) (hd 0 rfl)
    clear hd
    simp only [h0] at hK
    go_simp
    exact hK _ _ (hI.quiet 1 _ rfl (fun _=>rfl) (fun h=>absurd h (by decide)) (fun h=>absurd h (by decide)))
   ·
    intro D x W hi hd hI K hK
    have h1:x 1=_:=hI.y 1 (by decide) (hd 1 rfl)
    clear hd
    simp only [h1] at hK
    go_simp
    exact hK _ _ (hI.quiet 2 _ rfl (fun _=>rfl) (fun h=>absurd h (by decide)) (fun h=>absurd h (by decide)))
   ·
    intro D x W hi hd hI K hK
    have h2:x 2=_:=hI.y 2 (by decide) (hd 2 rfl)
    have c:=(hI.t.cell (p:=⟨B,0,none⟩) HBL.out HBN.out).trans HC0.out
    clear hd
    simp only [h2] at hK
    go_simp
    exact hK _ _ (hI.quiet 3 _ rfl (fun _=>rfl) (fun h=>absurd h (by decide)) (fun h=>absurd h (by decide)))
   ·
    intro D x W hi hd hI K hK
    clear hd
    go_simp
    exact hK _ _ (hI.quiet 4 _ rfl (fun _=>rfl) (fun h=>absurd h (by decide)) (fun h=>absurd h (by decide)))
   ·
    intro D x W hi hd hI K hK
    clear hd
    go_simp
    exact hK _ _ (hI.quiet 5 _ rfl (fun _=>rfl) (fun h=>absurd h (by decide)) (fun h=>absurd h (by decide)))
   ·
    intro D x W hi hd hI K hK
    have h5:x 5=_:=hI.y 5 (by decide) (hd 5 rfl)
    clear hd
    simp only [h5] at hK
    go_simp
    exact hK _ _ (hI.quiet 6 _ rfl (fun _=>rfl) (fun h=>absurd h (by decide)) (fun h=>absurd h (by decide)))
   ·
    intro D x W hi hd hI K hK
    have h6:x 6=_:=hI.y 6 (by decide) (hd 6 rfl)
    clear hd
    simp only [h6] at hK
    go_simp
    exact hK _ _ (hI.quiet 7 _ rfl (fun _=>rfl) (fun h=>absurd h (by decide)) (fun h=>absurd h (by decide)))
   ·
    intro D x W hi hd hI K hK
    have h7:x 7=_:=hI.y 7 (by decide) (hd 7 rfl)
    have c:=(hI.t.cell (p:=⟨B,1,none⟩) HBL.out HBN.out).trans HC1.out
    clear hd
    simp only [h7] at hK
    go_simp
    exact hK _ _ (hI.quiet 8 _ rfl (fun _=>rfl) (fun h=>absurd h (by decide)) (fun h=>absurd h (by decide)))
   ·
    intro D x W hi hd hI K hK
    clear hd
    go_simp
    exact hK _ _ (hI.quiet 9 _ rfl (fun _=>rfl) (fun h=>absurd h (by decide)) (fun h=>absurd h (by decide)))
   ·
    intro D x W hi hd hI K hK
    clear hd
    go_simp
    exact hK _ _ (hI.quiet 10 _ rfl (fun _=>rfl) (fun h=>absurd h (by decide)) (fun h=>absurd h (by decide)))
   ·
    intro D x W hi hd hI K hK
    clear hd
    go_simp
    exact hK _ _ (hI.quiet 11 _ rfl (fun _=>rfl) (fun h=>absurd h (by decide)) (fun h=>absurd h (by decide)))
   ·
    intro D x W hi hd hI K hK
    have h3:x 3=_:=hI.y 3 (by decide) (hd 3 rfl)
    have h4:x 4=_:=hI.y 4 (by decide) (hd 4 rfl)
    obtain ⟨v0,st,W1,hrun,hH,hT⟩:=half9 (hI.s.at_ 0 (by decide) hi (.inl rfl)).1 HF.out n a hn' ha'
    clear hd
    simp only [h3,h4] at hK
    go_simp
    exact hK _ _ (hI.at12 hi hH hT hbc)
   ·
    intro D x W hi hd hI K hK
    have hp:=hd 12 rfl
    obtain ⟨v0,st,h12⟩:=hI.e12 hp
    clear hd
    simp only [h12] at hK
    go_simp
    exact hK _ _ (hI.quiet 13 _ rfl (fun h=>absurd h (by decide)) (fun _=>⟨hp,v0,by rw [h12]⟩) (fun h=>absurd h (by decide)))
   ·
    intro D x W hi hd hI K hK
    have h3:x 3=_:=hI.y 3 (by decide) (hd 3 rfl)
    have h10:x 10=_:=hI.y 10 (by decide) (hd 10 rfl)
    obtain ⟨⟨v0,st,e12,hH⟩,hM⟩:=hI.s.at_ 1 (by decide) hi (.inr (hd 12 rfl))
    obtain ⟨_,v1,e13⟩:=hI.e13 (hd 13 rfl)
    have h13:x 13=.int .i64 (st:Int):=(by rw [e12] at e13; simpa using e13.symm:v1=v0∧x 13=_).2
    obtain ⟨o,ho,hst⟩:=hH
    obtain ⟨W3,hrun,hm3,hT⟩:=hst W ho
    have hd12:=hd 12 rfl
    clear hd e13 e12 hst
    simp only [h3,h13,h10] at hK
    go_simp
    exact hK undef _ (hI.at14 hi hd12 hm3 hT hbc)
   ·
    intro D x W hi hd hI K hK
    have h8:x 8=_:=hI.y 8 (by decide) (hd 8 rfl)
    have h9:x 9=_:=hI.y 9 (by decide) (hd 9 rfl)
    obtain ⟨v0,st,W1,hrun,hH,hT⟩:=half9 (hI.s.at_ 2 (by decide) hi (.inr (hd 14 rfl))).2 HG.out a n ha' hn'
    have hd14:=hd 14 rfl
    clear hd
    simp only [h8,h9] at hK
    go_simp
    exact hK _ _ (hI.at15 hi hd14 hH hT hbc)
   ·
    intro D x W hi hd hI K hK
    have hp:=hd 15 rfl
    obtain ⟨v0,st,h15⟩:=hI.e15 hp
    clear hd
    simp only [h15] at hK
    go_simp
    exact hK _ _ (hI.quiet 16 _ rfl (fun h=>absurd h (by decide)) (fun h=>absurd h (by decide)) (fun _=>⟨hp,v0,by rw [h15]⟩))
   ·
    intro D x W hi hd hI K hK
    have h8:x 8=_:=hI.y 8 (by decide) (hd 8 rfl)
    have h11:x 11=_:=hI.y 11 (by decide) (hd 11 rfl)
    obtain ⟨hM,v0,st,e15,hH⟩:=hI.s.at_ 3 (by decide) hi (.inr (hd 15 rfl))
    obtain ⟨_,v1,e16⟩:=hI.e16 (hd 16 rfl)
    have h16:x 16=.int .i64 (st:Int):=(by rw [e15] at e16; simpa using e16.symm:v1=v0∧x 16=_).2
    obtain ⟨o,ho,hst⟩:=hH
    obtain ⟨W3,hrun,hm3,hT⟩:=hst W ho
    have hd15:=hd 15 rfl
    clear hd e16 e15 hst
    simp only [h8,h16,h11] at hK
    go_simp
    exact hK undef _ (hI.at17 hi hd15 hm3 hT hbc)
  case fin =>
   intro D x W hall hI
   have HZ:=za (HEND.out W hI.t (hI.s.done9 (fun r hr=>hall _ (by simp at hr; rcases r with _ | _ | _ | _ | r <;> first | decide | omega))).1 (hI.s.done9 (fun r hr=>hall _ (by simp at hr; rcases r with _ | _ | _ | _ | r <;> first | decide | omega))).2)
   clear hI hall
   go_end0
   exact ⟨rfl,HZ.out⟩
 | some b =>
  obtain ⟨c,rfl⟩:∃ c,q=some c:=by
   have:=hi.both
   cases q with
   | none=>cases this
   | some c=>exact ⟨c,rfl⟩
  have hbc:=hi.apt b c rfl rfl
  have HB1:=za (hi.mapp.map b rfl)
  have HB2:=za (hi.mapq.map c rfl)
  have HBL:=za hi.lt
  have HBN:Hid (¬ (B=b∨B=c)):=fun e=>e.elim (fun e=>hi.pne b rfl e.symm) (fun e=>hi.qne c rfl e.symm)
  have HC0:=za hi.cell0
  have HC1:=za hi.cell1
  have HEND:Hid (∀ W,zm (fun i=>i=b∨i=c) w1 W→Zd W b (qP L n.data.toList a.data.toList)→Zd W c (qP M1 a.data.toList n.data.toList)→vG w B (some b) (some c) (qP L n.data.toList a.data.toList) W):=fun W hW h1 h2=>by
   refine ⟨some b,some c,_,⟨(hW.block B HBL.out HBN.out).trans HI.out.blk,⟨(fun h=>nomatch h),fun b' e=>by cases e; exact h1⟩,⟨(fun h=>nomatch h),fun b' e=>by cases e; exact h2⟩,rfl,(fun _ _ e1 e2=>by cases e1; cases e2; exact hbc),HMIR.out,HLN.out,HALL.out⟩,(fun _ e=>.inl e),(fun _ e=>.inl e),?_⟩
   exact HT.out.next hW (fun i _ e=>e.elim (fun e=>.inr (.inl (by rw [e]))) (fun e=>.inr (.inr (by rw [e]))))
  clear hi HI HT HMIR HLN HALL hlp hlq hlt0
  go_wp2
  clear hc0 hq
  generalize w1=w2 at *
  refine xL (by kernel_rfl) (Yg w2 B b c (vK L n.data.toList) M1 (qP L n.data.toList a.data.toList) (qP M1 a.data.toList n.data.toList) n a) ?F2 ?hF2 (by kernel_rfl) (by kernel_rfl) (fun x=>Yg.start x HB1.out HB2.out) ?step2 ?fin2
  case hF2 =>
   intro x
   simp only [List.map_cons,List.map_nil,vI,Act.put,List.setIfInBounds_toArray,List.set_cons_zero,List.set_cons_succ,Nat.zero_add,Nat.reduceAdd]
   exact rfl
  case step2 =>
   rw [← HPD.out]
   refine ⟨?_,?_,?_,?_,?_,?_,?_,?_,?_,?_,?_,?_,?_,?_,?_,?_,?_,?_,trivial⟩
   ·
    intro D x W hi hd hI K hK
    clear hd
    go_simp
    exact hK _ _ (hI.quiet 0 _ rfl (fun _=>rfl) (fun h=>absurd h (by decide)) (fun h=>absurd h (by decide)))
   ·
    intro D x W hi hd hI K hK
    have h0:x 0=_:=hI.y 0 (by decide) (hd 0 rfl)
    clear hd
    simp only [h0] at hK
    go_simp
    exact hK _ _ (hI.quiet 1 _ rfl (fun _=>rfl) (fun h=>absurd h (by decide)) (fun h=>absurd h (by decide)))
   ·
    intro D x W hi hd hI K hK
    have h1:x 1=_:=hI.y 1 (by decide) (hd 1 rfl)
    clear hd
    simp only [h1] at hK
    go_simp
    exact hK _ _ (hI.quiet 2 _ rfl (fun _=>rfl) (fun h=>absurd h (by decide)) (fun h=>absurd h (by decide)))
   ·
    intro D x W hi hd hI K hK
    have h2:x 2=_:=hI.y 2 (by decide) (hd 2 rfl)
    have c:=(hI.t.cell (p:=⟨B,0,none⟩) HBL.out HBN.out).trans HC0.out
    clear hd
    simp only [h2] at hK
    go_simp
    exact hK _ _ (hI.quiet 3 _ rfl (fun _=>rfl) (fun h=>absurd h (by decide)) (fun h=>absurd h (by decide)))
   ·
    intro D x W hi hd hI K hK
    clear hd
    go_simp
    exact hK _ _ (hI.quiet 4 _ rfl (fun _=>rfl) (fun h=>absurd h (by decide)) (fun h=>absurd h (by decide)))
   ·
    intro D x W hi hd hI K hK
    clear hd
    go_simp
    exact hK _ _ (hI.quiet 5 _ rfl (fun _=>rfl) (fun h=>absurd h (by decide)) (fun h=>absurd h (by decide)))
   ·
    intro D x W hi hd hI K hK
    have h5:x 5=_:=hI.y 5 (by decide) (hd 5 rfl)
    clear hd
    simp only [h5] at hK
    go_simp
    exact hK _ _ (hI.quiet 6 _ rfl (fun _=>rfl) (fun h=>absurd h (by decide)) (fun h=>absurd h (by decide)))
   ·
    intro D x W hi hd hI K hK
    have h6:x 6=_:=hI.y 6 (by decide) (hd 6 rfl)
    clear hd
    simp only [h6] at hK
    go_simp
    exact hK _ _ (hI.quiet 7 _ rfl (fun _=>rfl) (fun h=>absurd h (by decide)) (fun h=>absurd h (by decide)))
   ·
    intro D x W hi hd hI K hK
    have h7:x 7=_:=hI.y 7 (by decide) (hd 7 rfl)
    have c:=(hI.t.cell (p:=⟨B,1,none⟩) HBL.out HBN.out).trans HC1.out
    clear hd
    simp only [h7] at hK
    go_simp
    exact hK _ _ (hI.quiet 8 _ rfl (fun _=>rfl) (fun h=>absurd h (by decide)) (fun h=>absurd h (by decide)))
   ·
    intro D x W hi hd hI K hK
    clear hd
    go_simp
    exact hK _ _ (hI.quiet 9 _ rfl (fun _=>rfl) (fun h=>absurd h (by decide)) (fun h=>absurd h (by decide)))
   ·
    intro D x W hi hd hI K hK
    clear hd
    go_simp
    exact hK _ _ (hI.quiet 10 _ rfl (fun _=>rfl) (fun h=>absurd h (by decide)) (fun h=>absurd h (by decide)))
   ·
    intro D x W hi hd hI K hK
    clear hd
    go_simp
    exact hK _ _ (hI.quiet 11 _ rfl (fun _=>rfl) (fun h=>absurd h (by decide)) (fun h=>absurd h (by decide)))
   ·
    intro D x W hi hd hI K hK
    have h3:x 3=_:=hI.y 3 (by decide) (hd 3 rfl)
    have h4:x 4=_:=hI.y 4 (by decide) (hd 4 rfl)
    obtain ⟨v0,st,W1,hrun,hH,hT⟩:=half9 (hI.s.at_ 0 (by decide) hi (.inl rfl)).1 HF.out n a hn' ha'
    clear hd
    simp only [h3,h4] at hK
    go_simp
    exact hK _ _ (hI.at12 hi hH hT hbc)
   ·
    intro D x W hi hd hI K hK
    have hp:=hd 12 rfl
    obtain ⟨v0,st,h12⟩:=hI.e12 hp
    clear hd
    simp only [h12] at hK
    go_simp
    exact hK _ _ (hI.quiet 13 _ rfl (fun h=>absurd h (by decide)) (fun _=>⟨hp,v0,by rw [h12]⟩) (fun h=>absurd h (by decide)))
   ·
    intro D x W hi hd hI K hK
    have h3:x 3=_:=hI.y 3 (by decide) (hd 3 rfl)
    have h10:x 10=_:=hI.y 10 (by decide) (hd 10 rfl)
    obtain ⟨⟨v0,st,e12,hH⟩,hM⟩:=hI.s.at_ 1 (by decide) hi (.inr (hd 12 rfl))
    obtain ⟨_,v1,e13⟩:=hI.e13 (hd 13 rfl)
    have h13:x 13=.int .i64 (st:Int):=(by rw [e12] at e13; simpa using e13.symm:v1=v0∧x 13=_).2
    obtain ⟨o,ho,hst⟩:=hH
    obtain ⟨W3,hrun,hm3,hT⟩:=hst W ho
    have hd12:=hd 12 rfl
    clear hd e13 e12 hst
    simp only [h3,h13,h10] at hK
    go_simp
    exact hK undef _ (hI.at14 hi hd12 hm3 hT hbc)
   ·
    intro D x W hi hd hI K hK
    have h8:x 8=_:=hI.y 8 (by decide) (hd 8 rfl)
    have h9:x 9=_:=hI.y 9 (by decide) (hd 9 rfl)
    obtain ⟨v0,st,W1,hrun,hH,hT⟩:=half9 (hI.s.at_ 2 (by decide) hi (.inr (hd 14 rfl))).2 HG.out a n ha' hn'
    have hd14:=hd 14 rfl
    clear hd
    simp only [h8,h9] at hK
    go_simp
    exact hK _ _ (hI.at15 hi hd14 hH hT hbc)
   ·
    intro D x W hi hd hI K hK
    have hp:=hd 15 rfl
    obtain ⟨v0,st,h15⟩:=hI.e15 hp
    clear hd
    simp only [h15] at hK
    go_simp
    exact hK _ _ (hI.quiet 16 _ rfl (fun h=>absurd h (by decide)) (fun h=>absurd h (by decide)) (fun _=>⟨hp,v0,by rw [h15]⟩))
   ·
    intro D x W hi hd hI K hK
    have h8:x 8=_:=hI.y 8 (by decide) (hd 8 rfl)
    have h11:x 11=_:=hI.y 11 (by decide) (hd 11 rfl)
    obtain ⟨hM,v0,st,e15,hH⟩:=hI.s.at_ 3 (by decide) hi (.inr (hd 15 rfl))
    obtain ⟨_,v1,e16⟩:=hI.e16 (hd 16 rfl)
    have h16:x 16=.int .i64 (st:Int):=(by rw [e15] at e16; simpa using e16.symm:v1=v0∧x 16=_).2
    obtain ⟨o,ho,hst⟩:=hH
    obtain ⟨W3,hrun,hm3,hT⟩:=hst W ho
    have hd15:=hd 15 rfl
    clear hd e16 e15 hst
    simp only [h8,h16,h11] at hK
    go_simp
    exact hK undef _ (hI.at17 hi hd15 hm3 hT hbc)
  case fin2 =>
   intro D x W hall hI
   have HZ:=za (HEND.out W hI.t (hI.s.done9 (fun r hr=>hall _ (by simp at hr; rcases r with _ | _ | _ | _ | r <;> first | decide | omega))).1 (hI.s.done9 (fun r hr=>hall _ (by simp at hr; rcases r with _ | _ | _ | _ | r <;> first | decide | omega))).2)
   clear hI hall
   go_end0
   exact ⟨rfl,HZ.out⟩
end Go.Proofs.YtmcomnocpibiiaaGreatDoor
namespace Go.Proofs.YtmcomnocpibiiaaGreatDoor
open Go.RowKit Go.Maps Go.Shelf

theorem vG.after {w w1 w':World} {B:Nat} {p q:Option Nat} {L':zQ} (ht:Jd B p q w w1) (h:vG w1 B p q L' w'):vG w B p q L' w':=by
 obtain ⟨p',q',M',hd,hp,hq,hu⟩:=h
 exact ⟨p',q',M',hd,fun b e=>(hp b e).imp id (fun h=>Nat.le_trans ht.size h),fun b e=>(hq b e).imp id (fun h=>Nat.le_trans ht.size h),zm.next ht hu (fun i _ h=>h)⟩

def UX (L:zQ) (n a:List UInt8):Bool:=V8 L a && decide (Qj L a≠n)
def qY (L:zQ) (n m:List UInt8):Int:=if zf n then (if m=[] then 0 else if yR m then (if UX L n (zL m) then 9 else 0) else 11) else 10
def Vk (L:zQ) (n m:List UInt8):zQ:=if qY L n m=0 then (if m=[] then vK L n else qP L n (zL m)) else L
def JC (L:zQ) (o n:List UInt8):Int:=if zf n then (if xG L o then (if xG L n && decide (n≠o) then 9 else 0) else 8) else 10
def reL9 (L:zQ) (o n:List UInt8):zQ:=if JC L o n=0 then qP (vK L o) n (xF L o) else L

theorem free9 {L M:zQ} (h:yt L M) {n a:List UInt8} (hb:UX L n a=false):V8 (vK L n) a=false:=by
 cases hd:V8 (vK L n) a
 ·
  rfl
 ·
  obtain ⟨h1,h2⟩:=yZ.1 (qH hd)
  have h3:V8 L a=true:=fX h1
  have h4:Qj L a=Qj (vK L n) a:=h.own h1
  unfold UX at hb
  rw [h3,Bool.true_and,decide_eq_false_iff_not] at hb
  have h5:Qj L a=n:=by
   by_cases e:Qj L a=n
   ·
    exact e
   ·
    exact absurd e hb
  exact absurd (h4.symm.trans h5) h2
theorem free9b {L M:zQ} (h:yt L M) {o n:List UInt8} (ho:xG L o=true):V8 (vK (vK L o) n) (xF L o)=false:=by
 cases hd:V8 (vK (vK L o) n) (xF L o)
 ·
  rfl
 ·
  obtain ⟨h1,_⟩:=yZ.1 (qH hd)
  obtain ⟨h1,h2⟩:=yZ.1 h1
  exact absurd (h.one h1 (xQ ho)) h2
theorem put_le9 {L:zQ} (hr:uN L) (n a:List UInt8):(qP L n a).length≤L.length+1:=by
 rw [jE hr]; split <;> omega
theorem qp (l:List UInt8):(ByteArray.mk (zL l).toArray).data.toList=zL l:=by simp

set_option maxRecDepth 100000 in
theorem set9_calls (B:Nat) (p q:Option Nat) (L M:zQ) (n m:ByteArray) (w:World) (h:vL w B p q L M) (hn:n.size≤9223372036854775807) (hmz:m.size≤9223372036854775807) (hl:L.length<100) (h5:ud w) :
  Calls Tryz.prog 179 #[.pointer (some ⟨B,0,none⟩),.string n,.string m] w fun e w'=>e=.returned (.int .i64 (qY L n.data.toList m.data.toList))∧vG w B p q (Vk L n.data.toList m.data.toList) w':=by
 have hn':n.size≤maxLen:=Nat.le_trans hn (by decide)
 have HN:=za (yf n w hn)
 have HI:=za h
 unfold Vk
 cases hb:zf n.data.toList with
 | false =>
  rw [hb] at HN
  have HN2:Hid (Calls Tryz.prog 65 #[.string n] w (xA 10 w)):=HN.out
  have e1:qY L n.data.toList m.data.toList=10:=by unfold qY; rw [hb]; rfl
  rw [e1,if_neg (by decide)]
  clear HN hb h e1
  go_enter Tryz.func179,Tryz.ntmps179
  go_wp2_with fail
  with_reducible refine HN2.out.mono ?_
  rintro e w1 ⟨rfl,hb⟩
  have HB:=za hb
  clear hb HN2
  go_wp2
  go_ret
  exact ⟨rfl,vG.still HI.out HB.out⟩
 | true =>
  rw [hb] at HN
  have HN2:Hid (Calls Tryz.prog 65 #[.string n] w (xA 0 w)):=HN.out
  have HNM:=za hb
  clear HN
  by_cases h0:m.size=0
  ·
   obtain rfl:m=⟨#[]⟩:=by
    obtain ⟨d⟩:=m
    obtain rfl:d=#[]:=Array.eq_empty_of_size_eq_zero h0
    rfl
   have e1:qY L n.data.toList (ByteArray.mk #[]).data.toList=0:=by unfold qY; rw [hb]; rfl
   rw [e1,if_pos rfl,if_pos (by rfl)]
   have HD:Hid (∀ W,vL W B p q L M→Calls Tryz.prog 90 #[.pointer (some ⟨B,0,none⟩),.string n] W fun e w'=>e=.returned (.bool (xG L n.data.toList))∧(∃ M',vL w' B p q (vK L n.data.toList) M')∧Jd B p q W w'):=fun W hW=>qK B p q L M n W hW hn'
   clear hb h e1 hmz
   generalize xG L n.data.toList=r at *
   go_enter Tryz.func179,Tryz.ntmps179
   go_wp2_with fail
   with_reducible refine HN2.out.mono ?_
   rintro e w1 ⟨rfl,hb⟩
   have HB:=za hb
   have HD1:=za (HD.out w1 (HI.out.later hb))
   clear hb HN2 HD
   go_wp2_with fail
   with_reducible refine HD1.out.mono ?_
   rintro e w2 ⟨rfl,⟨M2,hi⟩,ht⟩
   have HF:Hid (vG w B p q (vK L n.data.toList) w2):=vG.ahead HB.out ⟨p,q,M2,hi,(fun _ e=>.inl e),(fun _ e=>.inl e),ht⟩
   clear hi ht HD1
   go_wp2
   go_ret
   exact ⟨rfl,HF.out⟩
  ·
   have hne:¬ m.toList=[]:=fun e=>h0 (by rw [← zx,← ByteArray.toList_eq,e]; rfl)
   have hne1:¬ m.data.toList=[]:=fun e=>h0 (by rw [← zx,e]; rfl)
   have hne2:m.toList.isEmpty=false:=by simpa using hne
   have HM:Hid (∀ W,ud W→Calls Tryz.prog 143 #[.string m] W (Mails5 (yR m.data.toList) (uX m.data.toList) W)):=fun W hW=>Zx m W hmz hW
   have H5:=za h5
   cases hc:yR m.data.toList with
   | false =>
    have e1:qY L n.data.toList m.data.toList=11:=by unfold qY; rw [hb,if_pos rfl,if_neg hne1,hc]; rfl
    rw [e1,if_neg (by decide)]
    unfold uX at HM
    rw [hc] at HM
    have HM2:Hid (∀ W,ud W→Calls Tryz.prog 143 #[.string m] W fun e w'=>e=.returned (.tuple #[.string ⟨#[]⟩,.int .i64 11])∧Below W.heap.size W w'):=HM.out
    clear HM hb h e1 hmz hc h5 hne1
    go_enter Tryz.func179,Tryz.ntmps179
    go_wp2_with fail
    with_reducible refine HN2.out.mono ?_
    rintro e w1 ⟨rfl,hb⟩
    have HB:=za hb
    have HM1:=za (HM2.out w1 (H5.out.later hb))
    clear hb HN2 HM2
    go_wp2_with fail
    with_reducible refine HM1.out.mono ?_
    rintro e w2 ⟨rfl,hb⟩
    have HF:=za (z8 HB.out hb)
    clear hb HM1
    go_wp2
    go_ret
    exact ⟨rfl,vG.still HI.out HF.out⟩
   | true =>
    unfold uX at HM
    rw [hc] at HM
    have HM2:Hid (∀ W,ud W→Calls Tryz.prog 143 #[.string m] W fun e w'=>e=.returned (.tuple #[.string ⟨(zL m.data.toList).toArray⟩,.int .i64 0])∧Below W.heap.size W w'):=HM.out
    have hfz:(ByteArray.mk (zL m.data.toList).toArray).size≤maxLen:=by
     show (zL m.data.toList).toArray.size≤_
     rw [List.size_toArray,vZ,zx]; exact Nat.le_trans hmz (by decide)
    have HLK:Hid (∀ W,vL W B p q L M→(Instr.lookup 138 (.map q) (.string ⟨(zL m.data.toList).toArray⟩) true).run Tryz.prog W=.ok (.tuple #[.string (tx7 (Qj L (zL m.data.toList))),.bool (V8 L (zL m.data.toList))]) W):=fun W hW=>by
     have:=look9 hW.mapq ⟨(zL m.data.toList).toArray⟩ hfz
     rw [qp,hW.mir.get,hW.mir.has] at this
     exact this
    have e0:qY L n.data.toList m.data.toList=if UX L n.data.toList (zL m.data.toList) then 9 else 0:=by unfold qY; rw [hb,if_pos rfl,if_neg hne1,hc,if_pos rfl]
    have HP:Hid (UX L n.data.toList (zL m.data.toList)=false→∀ W,Below w.heap.size w W→Calls Tryz.prog 180 #[.pointer (some ⟨B,0,none⟩),.string n,.string ⟨(zL m.data.toList).toArray⟩] W fun e w'=>e=.returned (.tuple #[])∧vG w B p q (qP L n.data.toList (zL m.data.toList)) w'):=fun hbd W hW=>by
     have hfr:=free9 h.mir hbd
     have:=Vu B p q L M n ⟨(zL m.data.toList).toArray⟩ W (h.later hW) (by rw [qp]; exact May9.of hb hc) (by rw [qp]; exact hfr) (by rw [qp]; exact Nat.le_trans (put_le9 h.rise _ _) hl)
     rw [qp] at this
     exact this.mono fun e w' ⟨he,hg⟩=>⟨he,hg.ahead hW⟩
    rw [if_neg hne1,e0]
    clear HM e0 hfz h5 hc
    cases hho:V8 L (zL m.data.toList) with
    | false =>
     have hbd:UX L n.data.toList (zL m.data.toList)=false:=by unfold UX; rw [hho]; rfl
     have HP2:=za (HP.out hbd)
     rw [hbd,if_neg (by decide),if_pos rfl]
     rw [hho] at HLK
     clear HP hbd hho hb h hmz hne1
     generalize tx7 (Qj L (zL m.data.toList))=o at *
     generalize (⟨(zL m.data.toList).toArray⟩:ByteArray)=f at *
     go_enter Tryz.func179,Tryz.ntmps179
     go_wp2_with fail
     with_reducible refine HN2.out.mono ?_
     rintro e w1 ⟨rfl,hb⟩
     have HB:=za hb
     have HM1:=za (HM2.out w1 (H5.out.later hb))
     clear hb HN2 HM2
     go_wp2_with fail
     with_reducible refine HM1.out.mono ?_
     rintro e w2 ⟨rfl,hb⟩
     have hb2:=z8 HB.out hb
     have l1:=HLK.out w2 (HI.out.later hb2)
     have c1:=(HI.out.later hb2).cell1
     have HP3:=za (HP2.out w2 hb2)
     clear hb HM1 HLK HP2 hb2
     go_wp2_with fail
     with_reducible refine HP3.out.mono ?_
     rintro e w3 ⟨rfl,hg⟩
     have HG:=za hg
     clear hg HP3 l1 c1
     go_wp2
     go_ret
     exact ⟨rfl,HG.out⟩
    | true =>
     rw [hho] at HLK
     by_cases ho:Qj L (zL m.data.toList)=n.data.toList
     ·
      have hbd:UX L n.data.toList (zL m.data.toList)=false:=by unfold UX; rw [ho]; simp
      have HP2:=za (HP.out hbd)
      rw [hbd,if_neg (by decide),if_pos rfl]
      rw [ho,Yj] at HLK
      have n1:(n.toList != n.toList)=false:=by simp
      have n2:(n.toList == n.toList)=true:=by simp
      clear HP hbd hho hb h hmz ho hne1
      generalize (⟨(zL m.data.toList).toArray⟩:ByteArray)=f at *
      go_enter Tryz.func179,Tryz.ntmps179
      go_wp2_with fail
      with_reducible refine HN2.out.mono ?_
      rintro e w1 ⟨rfl,hb⟩
      have HB:=za hb
      have HM1:=za (HM2.out w1 (H5.out.later hb))
      clear hb HN2 HM2
      go_wp2_with fail
      with_reducible refine HM1.out.mono ?_
      rintro e w2 ⟨rfl,hb⟩
      have hb2:=z8 HB.out hb
      have l1:=HLK.out w2 (HI.out.later hb2)
      have c1:=(HI.out.later hb2).cell1
      have HP3:=za (HP2.out w2 hb2)
      clear hb HM1 HLK HP2 hb2
      go_wp2_with fail
      with_reducible refine HP3.out.mono ?_
      rintro e w3 ⟨rfl,hg⟩
      have HG:=za hg
      clear hg HP3 l1 c1
      go_wp2
      go_ret
      exact ⟨rfl,HG.out⟩
     ·
      have hbd:UX L n.data.toList (zL m.data.toList)=true:=by unfold UX; rw [hho,Bool.true_and,decide_eq_true ho]
      rw [hbd,if_pos rfl,if_neg (by decide)]
      have n1:¬ (tx7 (Qj L (zL m.data.toList))).toList=n.toList:=by
       rw [Lib.toList_data,Lib.toList_data,jA]; exact ho
      have n2:((tx7 (Qj L (zL m.data.toList))).toList == n.toList)=false:=by simpa using n1
      clear HP hbd hho hb h hmz ho hne1
      generalize tx7 (Qj L (zL m.data.toList))=o at *
      generalize (⟨(zL m.data.toList).toArray⟩:ByteArray)=f at *
      go_enter Tryz.func179,Tryz.ntmps179
      go_wp2_with fail
      with_reducible refine HN2.out.mono ?_
      rintro e w1 ⟨rfl,hb⟩
      have HB:=za hb
      have HM1:=za (HM2.out w1 (H5.out.later hb))
      clear hb HN2 HM2
      go_wp2_with fail
      with_reducible refine HM1.out.mono ?_
      rintro e w2 ⟨rfl,hb⟩
      have hb2:=z8 HB.out hb
      have l1:=HLK.out w2 (HI.out.later hb2)
      have c1:=(HI.out.later hb2).cell1
      have HF:=za hb2
      clear hb HM1 HLK hb2
      go_wp2
      go_ret
      exact ⟨rfl,vG.still HI.out HF.out⟩

set_option maxRecDepth 100000 in
theorem Ue (B:Nat) (p q:Option Nat) (L M:zQ) (o n:ByteArray) (w:World) (h:vL w B p q L M) (ho:o.size≤9223372036854775807) (hn:n.size≤9223372036854775807) :
  Calls Tryz.prog 114 #[.pointer (some ⟨B,0,none⟩),.string o,.string n] w fun e w'=>e=.returned (.int .i64 (JC L o.data.toList n.data.toList))∧vG w B p q (reL9 L o.data.toList n.data.toList) w':=by
 have hn':n.size≤maxLen:=Nat.le_trans hn (by decide)
 have ho':o.size≤maxLen:=Nat.le_trans ho (by decide)
 have HN:=za (yf n w hn)
 have HI:=za h
 have HLO:Hid (∀ W,vL W B p q L M→(Instr.lookup 138 (.map p) (.string o) true).run Tryz.prog W=.ok (.tuple #[.string (tx7 (xF L o.data.toList)),.bool (xG L o.data.toList)]) W):=fun W hW=>look9 hW.mapp o ho'
 have HLN:Hid (∀ W,vL W B p q L M→(Instr.lookup 138 (.map p) (.string n) true).run Tryz.prog W=.ok (.tuple #[.string (tx7 (xF L n.data.toList)),.bool (xG L n.data.toList)]) W):=fun W hW=>look9 hW.mapp n hn'
 unfold reL9
 cases hb:zf n.data.toList with
 | false =>
  rw [hb] at HN
  have HN2:Hid (Calls Tryz.prog 65 #[.string n] w (xA 10 w)):=HN.out
  have e1:JC L o.data.toList n.data.toList=10:=by unfold JC; rw [hb]; rfl
  rw [e1,if_neg (by decide)]
  clear HN hb h e1 HLO HLN
  go_enter Tryz.func114,Tryz.ntmps114
  go_wp2_with fail
  with_reducible refine HN2.out.mono ?_
  rintro e w1 ⟨rfl,hb⟩
  have HB:=za hb
  clear hb HN2
  go_wp2
  go_ret
  exact ⟨rfl,vG.still HI.out HB.out⟩
 | true =>
  rw [hb] at HN
  have HN2:Hid (Calls Tryz.prog 65 #[.string n] w (xA 0 w)):=HN.out
  clear HN
  have hnot:∀ (x:Bool) (w:World),(Op.unary .not (.bool x)).run Tryz.prog w=.ok (.bool (!x)) w:=fun _ _=>rfl
  cases hh:xG L o.data.toList with
  | false =>
   have e1:JC L o.data.toList n.data.toList=8:=by unfold JC; rw [hb,if_pos rfl,hh]; rfl
   rw [e1,if_neg (by decide)]
   rw [hh] at HLO
   clear hb h e1 HLN hh
   generalize tx7 (xF L o.data.toList)=g at *
   go_enter Tryz.func114,Tryz.ntmps114
   go_wp2_with fail
   with_reducible refine HN2.out.mono ?_
   rintro e w1 ⟨rfl,hb⟩
   have HB:=za hb
   have l0:=HLO.out w1 (HI.out.later hb)
   have c0:=(HI.out.later hb).cell0
   clear hb HN2 HLO
   go_wp2
   go_ret
   exact ⟨rfl,vG.still HI.out HB.out⟩
  | true =>
   have hmay:=h.all _ (xQ hh)
   rw [hh] at HLO
   have e0:JC L o.data.toList n.data.toList=if xG L n.data.toList && decide (n.data.toList≠o.data.toList) then 9 else 0:=by unfold JC; rw [hb,if_pos rfl,hh,if_pos rfl]
   rw [e0]
   cases hx:(xG L n.data.toList && decide (n.data.toList≠o.data.toList)) with
   | true =>
    rw [if_pos rfl,if_neg (by decide)]
    rw [Bool.and_eq_true,decide_eq_true_eq] at hx
    rw [hx.1] at HLN
    have n1:¬ n.toList=o.toList:=by rw [Lib.toList_data,Lib.toList_data]; exact hx.2
    have n2:(n.toList == o.toList)=false:=by simpa using n1
    clear hb h hmay e0 hx hh
    generalize tx7 (xF L o.data.toList)=g at *
    generalize tx7 (xF L n.data.toList)=g2 at *
    go_enter Tryz.func114,Tryz.ntmps114
    go_wp2_with fail
    with_reducible refine HN2.out.mono ?_
    rintro e w1 ⟨rfl,hb⟩
    have HB:=za hb
    have l0:=HLO.out w1 (HI.out.later hb)
    have l1:=HLN.out w1 (HI.out.later hb)
    have c0:=(HI.out.later hb).cell0
    clear hb HN2 HLO HLN
    go_wp2
    go_ret
    exact ⟨rfl,vG.still HI.out HB.out⟩
   | false =>
    rw [if_neg (by decide),if_pos rfl]
    have hfit:(qP (vK L o.data.toList) n.data.toList (xF L o.data.toList)).length≤100:=by
     have h1:=put_le9 (qB h.rise o.data.toList) n.data.toList (xF L o.data.toList)
     have h2:=VP h.rise hh
     have:=h.few
     omega
    have hfr:=free9b h.mir (n:=n.data.toList) hh
    have HD:Hid (∀ W,vL W B p q L M→Calls Tryz.prog 90 #[.pointer (some ⟨B,0,none⟩),.string o] W fun e w'=>e=.returned (.bool (xG L o.data.toList))∧(∃ M',vL w' B p q (vK L o.data.toList) M')∧Jd B p q W w'):=fun W hW=>qK B p q L M o W hW ho'
    have HP:Hid (∀ W M',vL W B p q (vK L o.data.toList) M'→Calls Tryz.prog 180 #[.pointer (some ⟨B,0,none⟩),.string n,.string (tx7 (xF L o.data.toList))] W fun e w'=>e=.returned (.tuple #[])∧vG W B p q (qP (vK L o.data.toList) n.data.toList (xF L o.data.toList)) w'):=fun W M' hW=>by
     have:=Vu B p q _ M' n (tx7 (xF L o.data.toList)) W hW (by rw [jA]; exact ⟨hb,hmay.2⟩) (by rw [jA]; exact hfr) (by rw [jA]; exact hfit)
     rw [jA] at this
     exact this
    rw [hh] at HD
    have hcase:xG L n.data.toList=false∨(xG L n.data.toList=true∧n=o):=by
     cases hz:xG L n.data.toList
     ·
      exact .inl rfl
     ·
      rw [hz,Bool.true_and,decide_eq_false_iff_not] at hx
      refine .inr ⟨rfl,?_⟩
      have:n.data.toList=o.data.toList:=by
       by_cases e:n.data.toList=o.data.toList
       ·
        exact e
       ·
        exact absurd e hx
      rw [← Yj n,this,Yj]
    clear hb h hmay e0 hx hh hfr hfit
    generalize tx7 (xF L o.data.toList)=g at *
    rcases hcase with hz | ⟨hz,rfl⟩
    ·
     rw [hz] at HLN
     clear hz
     generalize tx7 (xF L n.data.toList)=g2 at *
     go_enter Tryz.func114,Tryz.ntmps114
     go_wp2_with fail
     with_reducible refine HN2.out.mono ?_
     rintro e w1 ⟨rfl,hb⟩
     have HB:=za hb
     have l0:=HLO.out w1 (HI.out.later hb)
     have l1:=HLN.out w1 (HI.out.later hb)
     have c0:=(HI.out.later hb).cell0
     have HD1:=za (HD.out w1 (HI.out.later hb))
     clear hb HN2 HLO HLN HD
     go_wp2_with fail
     with_reducible refine HD1.out.mono ?_
     rintro e w2 ⟨rfl,⟨M2,hi⟩,ht⟩
     have HT:=za ht
     have HP1:=za (HP.out w2 M2 hi)
     clear hi ht HP HD1
     go_wp2_with fail
     with_reducible refine HP1.out.mono ?_
     rintro e w3 ⟨rfl,hg⟩
     have HF:=za ((hg.after HT.out).ahead HB.out)
     clear hg HP1 HT
     go_wp2
     go_ret
     exact ⟨rfl,HF.out⟩
    ·
     rw [hz] at HLN
     clear hz
     have n1:(n.toList != n.toList)=false:=by simp
     have n2:(n.toList == n.toList)=true:=by simp
     generalize tx7 (xF L n.data.toList)=g2 at *
     go_enter Tryz.func114,Tryz.ntmps114
     go_wp2_with fail
     with_reducible refine HN2.out.mono ?_
     rintro e w1 ⟨rfl,hb⟩
     have HB:=za hb
     have l0:=HLO.out w1 (HI.out.later hb)
     have c0:=(HI.out.later hb).cell0
     have HD1:=za (HD.out w1 (HI.out.later hb))
     clear hb HN2 HLO HLN HD
     go_wp2_with fail
     with_reducible refine HD1.out.mono ?_
     rintro e w2 ⟨rfl,⟨M2,hi⟩,ht⟩
     have HT:=za ht
     have HP1:=za (HP.out w2 M2 hi)
     clear hi ht HP HD1
     go_wp2_with fail
     with_reducible refine HP1.out.mono ?_
     rintro e w3 ⟨rfl,hg⟩
     have HF:=za ((hg.after HT.out).ahead HB.out)
     clear hg HP1 HT
     go_wp2
     go_ret
     exact ⟨rfl,HF.out⟩

theorem Z7 (p:Option Nat) (L:zQ) (w:World) (h:vF w p L):Calls Tryz.prog 185 #[.map p] w fun e w' =>
  ∃ p',e=.returned (.map p')∧vF w' p' L∧p'.isSome=p.isSome∧(∀ b,p'=some b→w.heap.size≤b)∧Below w.heap.size w w':=by
 cases p with
 | none=>exact (AnyW.maps_Clone_nil Tryz.clone7 w).mono fun e w' ⟨he,hw⟩=>⟨none,he,⟨fun _=>h.nil rfl,(fun _ h=>nomatch h)⟩,rfl,(fun _ h=>nomatch h),by rw [hw]; exact Below.refl _ _⟩
 | some b =>
  refine (AnyW.maps_Clone_owns Tryz.clone7 9 _ b _ _ w (h.map b rfl)).mono fun e w' ⟨he,h1,_,hb⟩=>⟨_,he,⟨(fun h=>nomatch h),fun b' hb'=>?_⟩,rfl,fun b' hb'=>?_,hb⟩
  ·
   cases hb'; exact h1
  ·
   cases hb'; exact Nat.le_refl _

def New9 (w W:World) (b:Nat) (p q:Option Nat) (L M:zQ):Prop:=vL W b p q L M∧w.heap.size≤b∧(∀ c,p=some c→w.heap.size≤c)∧(∀ c,q=some c→w.heap.size≤c)
theorem New9.later {w W W':World} {b:Nat} {p q:Option Nat} {L M:zQ} (h:New9 w W b p q L M) (hb:Below W.heap.size W W'):New9 w W' b p q L M:=⟨h.1.later hb,h.2⟩
theorem vF.later {w w':World} {p:Option Nat} {L:zQ} (h:vF w p L) (hb:Below w.heap.size w w'):vF w' p L:=h.turns (zm.of_below hb (fun _=>False)) (fun _ _ f=>f)
theorem vF.lt {w:World} {p:Option Nat} {L:zQ} (h:vF w p L):∀ b,p=some b→b<w.heap.size:=fun b hb=>(h.map b hb).lt

def YCp9 (B:Nat) (p q:Option Nat):Nat→Value→Prop
 | 2,v=>v=.pointer (some ⟨B,0,none⟩)
 | 3,v=>v=.map p
 | 7,v=>v=.pointer (some ⟨B,1,none⟩)
 | 8,v=>v=.map q
 | 4,_=>True
 | 9,_=>True
 | 10,_=>True
 | 11,_=>True
 | 12,_=>True
 | _,v=>v=.pointer (some ⟨B,0,none⟩)
def Cl9 (w W:World) (L:zQ) (s:Bool) (p':Option Nat):Prop:=vF W p' L∧p'.isSome=s∧∀ b,p'=some b→w.heap.size≤b
structure Cp9 (w:World) (B:Nat) (p q:Option Nat) (L M:zQ) (D:Nat→Bool) (x:Nat→Value) (W:World):Prop where
 b:Below w.heap.size w W
 y:∀ {j:Nat},D j=true→YCp9 B p q j (x j)
 y4:D 4=true→∃ p',x 4=.map p'∧Cl9 w W L p.isSome p'
 y9:D 9=true→∃ q',x 9=.map q'∧Cl9 w W M q.isSome q'
 ne:D 4=true→D 9=true→∀ p' q',x 4=.map p'→x 9=.map q'→∀ b c,p'=some b→q'=some c→b≠c
 y10:D 10=true→∃ p' q',x 10=.agg #[.map p',.map q']∧Cl9 w W L p.isSome p'∧Cl9 w W M q.isSome q'∧∀ b c,p'=some b→q'=some c→b≠c
 y11:D 11=true→∃ b p' q',x 11=.pointer (some ⟨b,0,none⟩)∧New9 w W b p' q' L M
 y12:D 12=true→∃ b p' q',x 12=.pointer (some ⟨b,0,none⟩)∧New9 w W b p' q' L M
theorem Cl9.later {w W W':World} {L:zQ} {s:Bool} {p':Option Nat} (h:Cl9 w W L s p') (hb:Below W.heap.size W W'):Cl9 w W' L s p':=⟨h.1.later hb,h.2⟩

section
variable {w W W':World} {B:Nat} {p q:Option Nat} {L M:zQ} {D:Nat→Bool} {x:Nat→Value}
theorem uO {x:Nat→Value} {i:Nat} {v:Value}:upd x i v i=v:=if_pos rfl
theorem jV {x:Nat→Value} {i j:Nat} {v:Value} (h:j≠i):upd x i v j=x j:=if_neg h
theorem uT {D:Nat→Bool} {i j:Nat} (h:j≠i):vm D i j=D j:=if_neg h
theorem Cp9.more (h:Cp9 w B p q L M D x W) (i:Nat) (v:Value) (hb:Below W.heap.size W W') (hy:YCp9 B p q i v)
  (h4:i=4→∃ p',v=.map p'∧Cl9 w W' L p.isSome p'∧∀ b,p'=some b→W.heap.size≤b) (h9:i=9→∃ q',v=.map q'∧Cl9 w W' M q.isSome q'∧∀ b,q'=some b→W.heap.size≤b)
  (h10:i=10→∃ p' q',v=.agg #[.map p',.map q']∧Cl9 w W' L p.isSome p'∧Cl9 w W' M q.isSome q'∧∀ b c,p'=some b→q'=some c→b≠c)
  (h11:i=11→∃ b p' q',v=.pointer (some ⟨b,0,none⟩)∧New9 w W' b p' q' L M) (h12:i=12→∃ b p' q',v=.pointer (some ⟨b,0,none⟩)∧New9 w W' b p' q' L M):Cp9 w B p q L M (vm D i) (upd x i v) W':=by
 refine ⟨z8 h.b hb,fun {j} hd=>?_,fun hd=>?_,fun hd=>?_,fun hd4 hd9 p' q' e4 e9 b c eb ec=>?_,fun hd=>?_,fun hd=>?_,fun hd=>?_⟩
 ·
  by_cases e:j=i
  ·
   subst e; rw [uO]; exact hy
  ·
   rw [jV e]; rw [uT e] at hd; exact h.y hd
 ·
  by_cases e:4=i
  ·
   subst e; rw [uO]; obtain ⟨p',e1,e2,_⟩:=h4 rfl; exact ⟨p',e1,e2⟩
  ·
   rw [jV e]; rw [uT e] at hd; obtain ⟨p',e1,e2⟩:=h.y4 hd; exact ⟨p',e1,e2.later hb⟩
 ·
  by_cases e:9=i
  ·
   subst e; rw [uO]; obtain ⟨p',e1,e2,_⟩:=h9 rfl; exact ⟨p',e1,e2⟩
  ·
   rw [jV e]; rw [uT e] at hd; obtain ⟨p',e1,e2⟩:=h.y9 hd; exact ⟨p',e1,e2.later hb⟩
 ·
  subst eb ec
  by_cases i4:4=i
  ·
   subst i4
   rw [uO] at e4
   rw [jV (by decide)] at e9
   rw [uT (by decide)] at hd9
   obtain ⟨p',e1,_,e3⟩:=h4 rfl
   obtain ⟨q',f1,f2⟩:=h.y9 hd9
   rw [e4] at e1; rw [e9] at f1
   injection e1 with e1; injection f1 with f1
   have:=e3 b e1.symm
   have:=f2.1.lt c f1.symm
   omega
  ·
   by_cases i9:9=i
   ·
    subst i9
    rw [uO] at e9
    rw [jV (by decide)] at e4
    rw [uT (by decide)] at hd4
    obtain ⟨q',e1,_,e3⟩:=h9 rfl
    obtain ⟨p',f1,f2⟩:=h.y4 hd4
    rw [e9] at e1; rw [e4] at f1
    injection e1 with e1; injection f1 with f1
    have:=e3 c e1.symm
    have:=f2.1.lt b f1.symm
    omega
   ·
    rw [jV i4] at e4; rw [jV i9] at e9; rw [uT i4] at hd4; rw [uT i9] at hd9
    exact h.ne hd4 hd9 _ _ e4 e9 b c rfl rfl
 ·
  by_cases e:10=i
  ·
   subst e; rw [uO]; exact h10 rfl
  ·
   rw [jV e]; rw [uT e] at hd; obtain ⟨p',q',e1,e2,e3,e4⟩:=h.y10 hd; exact ⟨p',q',e1,e2.later hb,e3.later hb,e4⟩
 ·
  by_cases e:11=i
  ·
   subst e; rw [uO]; exact h11 rfl
  ·
   rw [jV e]; rw [uT e] at hd; obtain ⟨b,p',q',e1,e2⟩:=h.y11 hd; exact ⟨b,p',q',e1,e2.later hb⟩
 ·
  by_cases e:12=i
  ·
   subst e; rw [uO]; exact h12 rfl
  ·
   rw [jV e]; rw [uT e] at hd; obtain ⟨b,p',q',e1,e2⟩:=h.y12 hd; exact ⟨b,p',q',e1,e2.later hb⟩
theorem Cp9.quiet (h:Cp9 w B p q L M D x W) (i:Nat) {v:Value} (hy:YCp9 B p q i v) (hi:[4,9,10,11,12].contains i=false:=by rfl):Cp9 w B p q L M (vm D i) (upd x i v) W :=
 h.more i v (Below.refl _ _) hy (fun e=>by subst e; cases hi) (fun e=>by subst e; cases hi) (fun e=>by subst e; cases hi) (fun e=>by subst e; cases hi) (fun e=>by subst e; cases hi)
theorem Cp9.at4 (h:Cp9 w B p q L M D x W) {p':Option Nat} (hm:vF W' p' L) (hs:p'.isSome=p.isSome) (hz:∀ b,p'=some b→W.heap.size≤b) (hb:Below W.heap.size W W'):Cp9 w B p q L M (vm D 4) (upd x 4 (.map p')) W' :=
 h.more 4 _ hb trivial (fun _=>⟨p',rfl,⟨hm,hs,fun b e=>Nat.le_trans h.b.size (hz b e)⟩,hz⟩) (fun e=>absurd e (by decide)) (fun e=>absurd e (by decide)) (fun e=>absurd e (by decide)) (fun e=>absurd e (by decide))
theorem Cp9.at9 (h:Cp9 w B p q L M D x W) {q':Option Nat} (hm:vF W' q' M) (hs:q'.isSome=q.isSome) (hz:∀ b,q'=some b→W.heap.size≤b) (hb:Below W.heap.size W W'):Cp9 w B p q L M (vm D 9) (upd x 9 (.map q')) W' :=
 h.more 9 _ hb trivial (fun e=>absurd e (by decide)) (fun _=>⟨q',rfl,⟨hm,hs,fun b e=>Nat.le_trans h.b.size (hz b e)⟩,hz⟩) (fun e=>absurd e (by decide)) (fun e=>absurd e (by decide)) (fun e=>absurd e (by decide))
theorem Cp9.at10 (h:Cp9 w B p q L M D x W) {v:Value} (hv:∃ p' q',v=.agg #[.map p',.map q']∧Cl9 w W L p.isSome p'∧Cl9 w W M q.isSome q'∧∀ b c,p'=some b→q'=some c→b≠c):Cp9 w B p q L M (vm D 10) (upd x 10 v) W :=
 h.more 10 v (Below.refl _ _) trivial (fun e=>absurd e (by decide)) (fun e=>absurd e (by decide)) (fun _=>hv) (fun e=>absurd e (by decide)) (fun e=>absurd e (by decide))
theorem Cp9.at11 (h:Cp9 w B p q L M D x W) {p' q':Option Nat} (hp:Cl9 w W L p.isSome p') (hq:Cl9 w W M q.isSome q') (hne:∀ b c,p'=some b→q'=some c→b≠c) {w1:World} (hr:vL w1 B p q L M) :
  Cp9 w B p q L M (vm D 11) (upd x 11 (.pointer (some ⟨W.heap.size,0,none⟩))) (W.alloc (.cells #[.map p',.map q'] 140)):=by
 have hb:=z7 (Below.refl W.heap.size W) (.cells #[.map p',.map q'] 140)
 refine h.more 11 _ hb trivial (fun e=>absurd e (by decide)) (fun e=>absurd e (by decide)) (fun e=>absurd e (by decide)) (fun _=>⟨_,p',q',rfl,⟨(MapKept.heap_alloc W _).1,hp.1.later hb,hq.1.later hb,?_,hne,hr.mir,hr.few,hr.all⟩,h.b.size,hp.2.2,hq.2.2⟩) (fun e=>absurd e (by decide))
 rw [hp.2.1,hq.2.1,hr.both]
theorem Cp9.at12 (h:Cp9 w B p q L M D x W) {v:Value} (hv:∃ b p' q',v=.pointer (some ⟨b,0,none⟩)∧New9 w W b p' q' L M):Cp9 w B p q L M (vm D 12) (upd x 12 v) W :=
 h.more 12 v (Below.refl _ _) trivial (fun e=>absurd e (by decide)) (fun e=>absurd e (by decide)) (fun e=>absurd e (by decide)) (fun e=>absurd e (by decide)) (fun _=>hv)
theorem Cp9.start (w:World) (x:Nat→Value):Cp9 w B p q L M (fun _=>false) x w.drew :=
 ⟨zS (Below.refl _ _),(fun {_} h=>nomatch h),(fun h=>nomatch h),(fun h=>nomatch h),(fun h _=>nomatch h),(fun h=>nomatch h),(fun h=>nomatch h),(fun h=>nomatch h)⟩
end

def Apart9 (L:zQ) (w:World) (e:Ending) (w':World):Prop:=∃ b p q M,e=.returned (.pointer (some ⟨b,0,none⟩))∧New9 w w' b p q L M∧Below w.heap.size w w'

set_option maxRecDepth 100000 in
theorem Fq (B:Nat) (p q:Option Nat) (L M:zQ) (w:World) (h:vL w B p q L M):Calls Tryz.prog 134 #[.pointer (some ⟨B,0,none⟩)] w (Apart9 L w):=by
 have HR:=za h
 clear h
 go_enter Tryz.func134,Tryz.ntmps134
 go_wp2_with fail
 refine xL (by kernel_rfl) (Cp9 w B p q L M) ?F ?hF (by kernel_rfl) (by kernel_rfl) (fun x=>Cp9.start w x) ?step ?fin
 case hF =>
  intro x
  simp only [List.map_cons,List.map_nil,vI,Act.put,List.setIfInBounds_toArray,List.set_cons_zero,List.set_cons_succ,Nat.zero_add,Nat.reduceAdd]
  exact rfl
 case step =>
  refine ⟨?_,?_,?_,?_,?_,?_,?_,?_,?_,?_,?_,?_,?_,trivial⟩
  ·
   intro D x W hi hd hI K hK
   clear hd
   go_simp
   exact hK _ _ (hI.quiet 0 rfl)
  ·
   intro D x W hi hd hI K hK
   have h0:x 0=_:=hI.y (hd 0 rfl)
   clear hd
   simp only [h0] at hK
   go_simp
   exact hK _ _ (hI.quiet 1 rfl)
  ·
   intro D x W hi hd hI K hK
   have h1:x 1=_:=hI.y (hd 1 rfl)
   clear hd
   simp only [h1] at hK
   go_simp
   exact hK _ _ (hI.quiet 2 rfl)
  ·
   intro D x W hi hd hI K hK
   have h2:x 2=_:=hI.y (hd 2 rfl)
   have c:=(HR.out.later hI.b).cell0
   clear hd
   simp only [h2] at hK
   go_simp
   exact hK _ _ (hI.quiet 3 rfl)
  ·
   intro D x W hi hd hI K hK
   have h3:x 3=_:=hI.y (hd 3 rfl)
   have hc:=Z7 _ _ W (HR.out.later hI.b).mapp
   clear hd
   simp only [h3] at hK
   go_simp
   refine hc.mono ?_
   rintro e W' ⟨p',rfl,hm,hs,hz,hb⟩
   exact hK _ _ (hI.at4 hm hs hz hb)
  ·
   intro D x W hi hd hI K hK
   clear hd
   go_simp
   exact hK _ _ (hI.quiet 5 rfl)
  ·
   intro D x W hi hd hI K hK
   have h5:x 5=_:=hI.y (hd 5 rfl)
   clear hd
   simp only [h5] at hK
   go_simp
   exact hK _ _ (hI.quiet 6 rfl)
  ·
   intro D x W hi hd hI K hK
   have h6:x 6=_:=hI.y (hd 6 rfl)
   clear hd
   simp only [h6] at hK
   go_simp
   exact hK _ _ (hI.quiet 7 rfl)
  ·
   intro D x W hi hd hI K hK
   have h7:x 7=_:=hI.y (hd 7 rfl)
   have c:=(HR.out.later hI.b).cell1
   clear hd
   simp only [h7] at hK
   go_simp
   exact hK _ _ (hI.quiet 8 rfl)
  ·
   intro D x W hi hd hI K hK
   have h8:x 8=_:=hI.y (hd 8 rfl)
   have hc:=Z7 _ _ W (HR.out.later hI.b).mapq
   clear hd
   simp only [h8] at hK
   go_simp
   refine hc.mono ?_
   rintro e W' ⟨p',rfl,hm,hs,hz,hb⟩
   exact hK _ _ (hI.at9 hm hs hz hb)
  ·
   intro D x W hi hd hI K hK
   obtain ⟨p',h4,hp'⟩:=hI.y4 (hd 4 rfl)
   obtain ⟨q',h9,hq'⟩:=hI.y9 (hd 9 rfl)
   have hne:=hI.ne (hd 4 rfl) (hd 9 rfl) p' q' h4 h9
   clear hd
   simp only [h4,h9] at hK
   go_simp
   exact hK _ _ (hI.at10 ⟨p',q',rfl,hp',hq',hne⟩)
  ·
   intro D x W hi hd hI K hK
   obtain ⟨p',q',h10,hp',hq',hne⟩:=hI.y10 (hd 10 rfl)
   clear hd
   simp only [h10] at hK
   go_simp
   exact hK _ _ (hI.at11 hp' hq' hne HR.out)
  ·
   intro D x W hi hd hI K hK
   obtain ⟨b,p',q',h11,hz⟩:=hI.y11 (hd 11 rfl)
   clear hd
   simp only [h11] at hK
   go_simp
   exact hK _ _ (hI.at12 ⟨b,p',q',rfl,hz⟩)
 case fin =>
  intro D x W hall hI
  obtain ⟨b,p',q',h12,hz⟩:=hI.y12 (hall 12 (by decide))
  have HZ:Hid (Apart9 L w (.returned (.pointer (some ⟨b,0,none⟩))) W):=⟨b,p',q',M,rfl,hz,hI.b⟩
  clear hI hall hz HR
  rw [h12]
  go_wp2
  go_ret
  exact HZ.out
end Go.Proofs.YtmcomnocpibiiaaGreatDoor
