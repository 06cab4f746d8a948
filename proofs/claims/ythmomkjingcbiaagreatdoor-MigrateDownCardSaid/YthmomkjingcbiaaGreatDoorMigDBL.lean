/-
  The texts that the laws of this seat share, part 12: what the code and the document's own answers tell, walked function by function.
  Conditions: each theorem's own.
-/
import Derived.Test.YthmomkjingcbiaaGreatDoorMigDBK
set_option maxHeartbeats 16000000
namespace Go.Proofs.YthmomkjingcbiaaGreatDoor
open Go.RowKit Go.Maps


section
variable {w0 w:World} {D P M G:Nat} {A:zJ} {L:zB} {S:zw} {k:Nat}
end

/-! ### stores beside a directory -/
def Ju (W:World) (b:Nat) (A:Option Addr) (n:Nat):Prop :=
 0<n→∃ g cur,A=some ⟨g,0,none⟩∧b≤g∧W.heap[g]? = some (.cells cur 9 (0,0))∧n≤cur.size∧n≤9223372036854775807
theorem Ju.of {W:World} {b n c:Nat} {A:Option Addr} {xs:List Value} (h:W.ownsRow b 9 1 (.slice A n c) n xs):Ju W b A n:=fun hn=>by
 rcases h.2 with ⟨_,e⟩ | ⟨g,cap,cur,e,hb,hg,hc,hmx,hs,_⟩
 ·
  omega
 ·
  injection e with e1
  unfold maxLen at hmx
  exact ⟨g,cur,e1,hb,hg,by omega,by omega⟩
theorem Ju.few {W:World} {b n:Nat} {A:Option Addr} (h:Ju W b A n):n≤9223372036854775807:=by
 by_cases hn:0<n
 ·
  obtain ⟨_,_,_,_,_,_,h⟩:=h hn
  exact h
 ·
  omega
theorem Ju.low {W:World} {b a n:Nat} {A:Option Addr} (h:Ju W b A n) (ha:a≤b):Ju W a A n:=fun hn=>by
 obtain ⟨g,cur,e,hb,hg,hc⟩:=h hn
 exact ⟨g,cur,e,Nat.le_trans ha hb,hg,hc⟩
theorem Ju.below {W W':World} {b n:Nat} {A:Option Addr} (h:Ju W b A n) (hb:Below W.heap.size W W'):Ju W' b A n:=fun hn=>by
 obtain ⟨g,cur,e,h1,hg,hc⟩:=h hn
 exact ⟨g,cur,e,h1,(hb.block g (Array.getElem?_eq_some_iff.1 hg).1).trans hg,hc⟩
theorem Ju.keeps {W W':World} {b n:Nat} {A:Option Addr} (h:Ju W b A n) (hk:zu W W'):Ju W' b A n:=fun hn=>by
 obtain ⟨g,cur,e,h1,hg,hc⟩:=h hn
 exact ⟨g,cur,e,h1,hk g cur _ _ hg (by decide) (by decide) (by decide),hc⟩
theorem Ju.store {W:World} {b n g k:Nat} {A:Option Addr} {cur:Array Value} (h:Ju W b A n) (hg:W.heap[g]? = some (.cells cur 9 (0,0))) (s:Value):Ju (W.setCell ⟨g,k,none⟩ s) b A n:=fun hn=>by
 obtain ⟨g',cur',e,h1,hg',hc⟩:=h hn
 by_cases eg:g'=g
 ·
  subst eg
  rw [hg] at hg'
  injection hg' with hg'
  injection hg' with hg'
  subst hg'
  exact ⟨g',_,e,h1,heap_setCell_same W g' k cur _ s hg,by simpa using hc.1,hc.2⟩
 ·
  exact ⟨g',cur',e,h1,(heap_setCell_other W ⟨g,k,none⟩ g' s eg).trans hg',hc⟩
theorem zo.setStr {w0 W:World} {D P M G g k:Nat} {A:zJ} {L:zB} {S:zw} {cur:Array Value} (h:zo w0 W D P M G A L S) (hg:W.heap[g]? = some (.cells cur 9 (0,0))) (hw:w0.heap.size≤g) (s:Value):zo w0 (W.setCell ⟨g,k,none⟩ s) D P M G A L S:=by
 obtain ⟨p,q,LM,pg,T,hd,hS,h2,h3⟩:=h
 have ht:zm (fun i=>i=g) W (W.setCell ⟨g,k,none⟩ s):=(zm.refl (fun i=>i=g) W).setCell (p:=⟨g,k,none⟩) (fun _=>rfl) _
 have hD:D≠g:=jR hd.blk hg (by decide)
 have hP:P≠g:=Yz hd.acc hg
 refine ⟨p,q,LM,pg,T,⟨?_,?_,?_,?_,hd.sep1,hd.sep2,hd.sep3⟩,hS,h2,h3.turn ht (fun i e=>by subst e; exact ⟨hw,id⟩)⟩
 ·
  exact (heap_setCell_other W ⟨g,k,none⟩ D s hD).trans hd.blk
 ·
  exact hd.acc.kept (heap_setCell_other W ⟨g,k,none⟩ P s hP)
 ·
  exact hd.idx.turnsF ht (fun i hi e=>by subst e; exact Z2 hd.idx hg (by decide) hi)
 ·
  exact hd.grp.turnsF ht (fun i hi e=>by subst e; exact Z3 hd.grp hg (by decide) hi)
theorem zo.base {w00 w0 W:World} {D P M G:Nat} {A:zJ} {L:zB} {S:zw} (h:zo w0 W D P M G A L S) (hb:Below w00.heap.size w00 w0):zo w00 W D P M G A L S:=by
 obtain ⟨p,q,LM,pg,T,hd,hS,h2,h3⟩:=h
 exact ⟨p,q,LM,pg,T,hd,hS,fun i hi=>⟨Nat.le_trans hb.size (h2 i hi).1,id⟩,z8 hb h3.1,h3.2⟩

/-! ### users in a row of one's own -/
def vT (l:List Us):List Value:=l.flatMap fun u=>u.cells.toList
theorem JJ (l:List Us) (i j:Nat) (hi:i<l.length) (hj:j<5):(vT l)[i * 5+j]? = l[i].cells[j]? := by
 induction l generalizing i with
 | nil=>exact absurd hi (Nat.not_lt_zero _)
 | cons u l ih =>
  have e:vT (u::l)=u.cells.toList++vT l:=rfl
  have h5:u.cells.toList.length=5:=rfl
  rw [e]
  cases i with
  | zero =>
   rw [List.getElem?_append_left (by omega),Nat.zero_mul,Nat.zero_add]
   simp
  | succ i =>
   rw [List.getElem?_append_right (by omega),h5,show (i+1) * 5+j - 5=i * 5+j by omega]
   exact ih i (by simpa using hi)
theorem U7 (l:List Us) (u:Us):vT (l++[u])=vT l++u.cells.toList:=by
 unfold vT
 rw [List.flatMap_append]
 simp
structure Zz11 (w W:World) (D P M G:Nat) (A:zJ) (L:zB) (S:zw) (v:Value) (n:Nat) (l:List Us):Prop where
 own:zo w W D P M G A L S
 len:l.length=n
 row:W.ownsRow 0 47 5 v n (vT l)
 txt:∀ u∈l,Ju W w.heap.size u.ga u.gs.length
section
variable {w W:World} {D P M G:Nat} {A:zJ} {L:zB} {S:zw} {l:List Us}
theorem Zz11.later {W':World} {v:Value} {n:Nat} (h:Zz11 w W D P M G A L S v n l) (hb:Below W.heap.size W W'):Zz11 w W' D P M G A L S v n l :=
 ⟨h.own.later hb,h.len,zG h.row hb,fun u hu=>(h.txt u hu).below hb⟩
theorem Zz11.at_ {B:Option Addr} {n c i:Nat} (h:Zz11 w W D P M G A L S (.slice B n c) n l) (hi:i<l.length):∃ g,B=some ⟨g,0,none⟩∧W.cell? ⟨g,i * 5+4,none⟩=some (.slice l[i].ga l[i].gs.length l[i].gc):=by
 have hn:=h.len
 obtain ⟨g,cap,e,_,_⟩:=h.row.form (by omega)
 injection e with e1 e2 e3
 subst e1 e3
 refine ⟨g,rfl,?_⟩
 rw [h.row.cellAt (i * 5+4) (by omega),JJ l i 4 hi (by decide)]
 rfl
theorem Zz11.store {v:Value} {n i k:Nat} (h:Zz11 w W D P M G A L S v n l) (hi:i<l.length) (hk:k<l[i].gs.length) (s:ByteArray) :
  ∃ g,l[i].ga=some ⟨g,0,none⟩∧(∃ x,W.cell? ⟨g,k,none⟩=some x)∧W.frozen? ⟨g,k,none⟩=false∧Zz11 w (W.setCell ⟨g,k,none⟩ (.string s)) D P M G A L S v n l:=by
 obtain ⟨g,cur,e,h1,hg,hc,_⟩:=h.txt _ (List.getElem_mem hi) (by omega)
 refine ⟨g,e,?_,?_,h.own.setStr hg h1 _,h.len,?_,fun u hu=>(h.txt u hu).store hg _⟩
 ·
  rw [cell_of_row W g k cur _ (0,0) hg]
  exact ⟨_,Array.getElem?_eq_getElem (by omega)⟩
 ·
  exact frozen_of_row W g k cur _ hg
 ·
  have ht:zm (fun i=>i=g) W (W.setCell ⟨g,k,none⟩ (.string s)):=(zm.refl (fun i=>i=g) W).setCell (p:=⟨g,k,none⟩) (fun _=>rfl) _
  rcases h.row.2 with hz | ⟨g2,cap,cur2,e2,hb2,hg2,rest⟩
  ·
   exact ⟨h.row.1,.inl hz⟩
  ·
   exact ⟨h.row.1,.inr ⟨g2,cap,cur2,e2,hb2,(heap_setCell_other W ⟨g,k,none⟩ g2 _ (fun e=>by
    subst e
    rw [hg] at hg2
    injection hg2 with hg2
    injection hg2 with _ hg2
    exact absurd hg2 (by decide))).trans hg2,rest⟩⟩
end

def xf (u:Us):Us:={ u with ga:=none,gc:=0 }
theorem QS:∀ l:List Us,xY (l.map xf)=xY l
 | []=>rfl
 | u::l=>by
  show (if xK 2 (xf u)=0 then xY (l.map xf) else xK 2 (xf u))=_
  rw [QS l]
  rfl
theorem Vv (G:List ByteArray):∀ (l pre:List Us),xe G (pre.map xf) (l.map xf)=xe G pre l
 | [],_=>rfl
 | u::l,pre=>by
  have h1:xX G (pre.map xf) (xf u)=xX G pre u:=by
   unfold xX
   rw [List.any_map]
   rfl
  show (if xX G (pre.map xf) (xf u)=0 then xe G (pre.map xf++[xf u]) (l.map xf) else xX G (pre.map xf) (xf u))=_
  rw [h1,show pre.map xf++[xf u]=(pre++[u]).map xf by rw [List.map_append]; rfl,Vv G l]
  rfl
theorem Yp (l:List Us) (G:List ByteArray):uR (l.map xf) G=uR l G:=by
 have h1:X5 (l.map xf)=X5 l:=by
  unfold X5
  rw [QS,List.map_map,List.length_map]
  rfl
 unfold uR
 rw [h1]
 have h2:=Vv G l []
 rw [List.map_nil] at h2
 rw [h2]
theorem pl_nrm11 (l:List Us):vC (l.map xf)=vC l:=by unfold vC; rw [List.map_map]; rfl

structure Cp11 (w W:World) (l:List Us) (k:Nat) (v:Value) (l2:List Us):Prop where
 bel:Below w.heap.size w W
 same:l2.map xf=(l.take k).map xf
 row:W.ownsRow w.heap.size 47 5 v k (vT l2)
 txt:∀ u∈l2,W.ownsRow w.heap.size 9 1 (.slice u.ga u.gs.length u.gc) u.gs.length (xG u.gs)
section
variable {w W W' wr w3 w5:World} {l l2:List Us} {k:Nat} {v v':Value}
theorem Cp11.later (h:Cp11 w W l k v l2) (hb:Below W.heap.size W W'):Cp11 w W' l k v l2 :=
 ⟨z8 h.bel hb,h.same,zG h.row hb,fun u hu=>zG (h.txt u hu) hb⟩
theorem keepS11 {b0 n:Nat} {e:TypeId} {xs ys:List Value} {u:Value} {a b c d x:Value} {B:Nat} {o:Obj} (hB:yf w3 B a b c d x) (hv:w3.ownsRow b0 47 5 v n xs) (y:Value) (hg:((w3.setCell ⟨B,4,none⟩ y).alloc o).grownBy w5 v.ownBlock) {m:Nat} (h:w3.ownsRow m 9 1 u e ys):w5.ownsRow m 9 1 u e ys:=by
 refine ⟨h.1,?_⟩
 rcases h.2 with hz | ⟨g,cap,cur,e1,h1,hgg,rest⟩
 ·
  exact .inl hz
 ·
  have hlt:g<w3.heap.size:=(Array.getElem?_eq_some_iff.1 hgg).1
  have n1:g≠B:=fun e=>by
   subst e
   have hB':w3.heap[g]? = _:=hB
   rw [hgg] at hB'
   injection hB' with hB'
   injection hB' with _ hB'
   exact absurd hB' (by decide)
  have n2:some g≠v.ownBlock:=fun e=>by
   rcases hv.2 with ⟨rfl,_⟩ | ⟨g2,cap2,cur2,rfl,_,hg2,_⟩
   ·
    simp [Value.ownBlock] at e
   ·
    simp [Value.ownBlock] at e
    subst e
    rw [hgg] at hg2
    injection hg2 with hg2
    injection hg2 with _ hg2
    exact absurd hg2 (by decide)
  refine .inr ⟨g,cap,cur,e1,h1,?_,rest⟩
  rw [hg.block g (by simp; omega) n2]
  have hs:((w3.setCell ⟨B,4,none⟩ y).alloc o).heap[g]? = (w3.setCell ⟨B,4,none⟩ y).heap[g]? := (z7 (Below.refl (w3.setCell ⟨B,4,none⟩ y).heap.size _) o).block g (by simpa using hlt)
  rw [hs,heap_setCell_other w3 ⟨B,4,none⟩ g y n1]
  exact hgg
theorem Cp11.next {a b c d e x:Value} {o:Obj} (h:Cp11 w wr l k v l2) (hb:Below wr.heap.size wr w3) (hB:yf w3 wr.heap.size a b c d e) (hg:((w3.setCell ⟨wr.heap.size,4,none⟩ x).alloc o).grownBy w5 v.ownBlock) (u:Us)
  (ho:w5.ownsRow w.heap.size 47 5 v' (k+1) (vT l2++u.cells.toList)) (ht:w3.ownsRow wr.heap.size 9 1 (.slice u.ga u.gs.length u.gc) u.gs.length (xG u.gs)) (hk:k<l.length) (hu:xf u=xf l[k]):Cp11 w w5 l (k+1) v' (l2++[u]):=by
 have hrow3:=zG h.row hb
 have hb3:=z8 h.bel hb
 have hsz:=h.bel.size
 refine ⟨?_,?_,by rw [U7]; exact ho,fun z hz=>?_⟩
 ·
  have h4:Below w.heap.size w (w3.setCell ⟨wr.heap.size,4,none⟩ x):=hb3.setCell (p:=⟨wr.heap.size,4,none⟩) hsz _
  exact (z8 h4 (z7 (Below.refl _ _) o)).grown hg (by have:=h4.size; simp at this ⊢; omega) (fun j hj=>(hrow3.lt j hj).1)
 ·
  rw [List.map_append,List.take_succ_eq_append_getElem hk,List.map_append,h.same]
  show _++[xf u]=_++[xf l[k]]
  rw [hu]
 ·
  rcases List.mem_append.1 hz with hz | hz
  ·
   exact keepS11 hB hrow3 x hg (zG (h.txt z hz) hb)
  ·
   rw [List.mem_singleton] at hz
   subst hz
   exact keepS11 hB hrow3 x hg (zC ht hsz)
theorem Cp11.all (h:Cp11 w W l l.length v l2) (ho:∀ u∈l,u.Ok w):l2.length=l.length∧(∀ u∈l2,u.Ok W)∧(∀ G,uR l2 G=uR l G)∧vC l2=vC l:=by
 have hs:=h.same
 rw [List.take_length] at hs
 have hlen:l2.length=l.length:=by have:=congrArg List.length hs; simpa using this
 refine ⟨hlen,fun u hu=>?_,fun G=>by rw [← Yp l2,hs,Yp],by rw [← pl_nrm11 l2,hs,pl_nrm11]⟩
 have hm:xf u∈l.map xf:=by rw [← hs]; exact List.mem_map.2 ⟨u,hu,rfl⟩
 obtain ⟨z,hz,e⟩:=List.mem_map.1 hm
 have hz':=ho z hz
 have e1:z.nm=u.nm:=(congrArg Us.nm e:(xf z).nm=(xf u).nm)
 have e2:z.hs=u.hs:=(congrArg Us.hs e:(xf z).hs=(xf u).hs)
 have e3:z.ml=u.ml:=(congrArg Us.ml e:(xf z).ml=(xf u).ml)
 have e4:z.gs=u.gs:=(congrArg Us.gs e:(xf z).gs=(xf u).gs)
 have ht:=h.txt u hu
 have hform:(u.ga=none→u.gc=0)∧u.gs.length≤u.gc∧u.gc≤9223372036854775807:=by
  rcases ht.2 with ⟨q,q2⟩ | ⟨g,cap,cur,q,_,_,q3,q4,_⟩
  ·
   injection q with q0 _ q1
   exact ⟨fun _=>q1,by omega,by omega⟩
  ·
   injection q with q0 _ q1
   unfold maxLen at q4
   exact ⟨fun hn=>absurd (hn.symm.trans q0) (by simp),by omega,by omega⟩
 exact { rd:=Vy (zC ht (Nat.zero_le _)),nm:=e1 ▸ hz'.nm,hs:=e2 ▸ hz'.hs,ml:=e3 ▸ hz'.ml,nil:=hform.1,len:=hform.2.1,cap:=hform.2.2,all:=e4 ▸ hz'.all }
end



def tell12 (st:St):Us:=if (Yt 2 st).1.e=0 then (Yt 2 st).2 else zeroU
def JH:Nat→St→St×List Us
 | 0,st=>(st,[])
 | k+1,st=>((JH k (Yt 2 st).1).1,tell12 st::(JH k (Yt 2 st).1).2)
def schema12 (st:St):St:=if (yZ st 1).2=2 then (yZ st 1).1 else xy (yZ st 1).1 6
def count12 (st:St):St×Nat:=if 12<(yZ st 2).2 then (xy (yZ st 2).1 7,0) else yZ st 2
def code12 (G:List ByteArray) (r:St×List Us):Int×List Us×List ByteArray :=
 if r.1.e≠0 then (r.1.e,[],[]) else if uR r.2 G≠0 then (uR r.2 G,[],[]) else if endS r.1≠0 then (endS r.1,[],[]) else (0,r.2,G)
def tail12 (g:St×List ByteArray):Int×List Us×List ByteArray:=code12 g.2 (JH (count12 g.1).2 (count12 g.1).1)
def read12 (bs:List UInt8):Int×List Us×List ByteArray:=tail12 (rowS (schema12 ⟨bs,0⟩) 6 12)
def folB (l:List Us) (G:List ByteArray):List UInt8:=le 2 1++(rowB G++(le l.length 2++l.flatMap (Zg 2)))


/-! ### What was read is what is written -/

/-! ### What is written is read -/
structure May12 (l:List Us) (G:List ByteArray):Prop where
 of:uR l G=0
 all:∀ u∈l,xK 2 u=0
 few:l.length≤12
 names:yy G=true
 rise:zX G=true
 gfew:G.length≤6
theorem may12 {l:List Us} {G:List ByteArray} (h:uR l G=0):May12 l G:=by
 have hc:FQ l G=0:=by
  by_cases hc:FQ l G=0
  ·
   exact hc
  ·
   have:=(cE_of (l:=l) (G:=G)).1 hc
   rw [h] at this
   exact absurd this.symm hc
 obtain ⟨h1,_,h3,h4,h5,h6⟩:=Yv hc
 exact ⟨h,h1,h3,h4,h5,h6⟩
theorem May12.sizes {l:List Us} {G:List ByteArray} (h:May12 l G):∀ g∈G,g.size≤12:=fun g hg=>jM (by
 have:=List.all_eq_true.1 h.names g hg
 exact this)
theorem VQ (l:List Us) (G:List ByteArray):folB (l.map xf) G=folB l G:=by
 unfold folB
 rw [List.length_map,List.flatMap_map]
 rfl

/-! ### How long -/
theorem uB {n:Nat}:∀ {ss:List ByteArray},(∀ s∈ss,s.size≤n)→(yT ss).length≤(n+2) * ss.length
 | [],_=>by simp [yT]
 | s::ss,h=>by
  have h1:=h s (List.mem_cons_self ..)
  have h2:=uB (n:=n) (ss:=ss) (fun x hx=>h x (List.mem_cons_of_mem _ hx))
  show (xp s++yT ss).length≤_
  rw [List.length_append,uV,List.length_cons,Nat.mul_succ]
  omega
theorem XW {u:Us} (h:xK 2 u=0):(Zg 2 u).length≤137:=by
 obtain ⟨hl,_⟩:=fz h
 have h1:=hl.nm
 have h2:=hl.hs
 have h3:=hl.ml
 have h4:=uB hl.all
 have h5:=hl.len
 show (xp u.nm++xp u.hs++(xp u.ml++le u.dis.toNat 1++(le u.gs.length 2++yT u.gs))).length≤137
 simp only [List.length_append,uV,xH]
 omega
theorem jb:∀ {l:List Us},(∀ u∈l,xK 2 u=0)→(l.flatMap (Zg 2)).length≤137 * l.length
 | [],_=>Nat.le_refl _
 | q::l,h=>by
  have h1:=XW (h q (List.mem_cons_self ..))
  have h2:=jb (l:=l) (fun x hx=>h x (List.mem_cons_of_mem _ hx))
  rw [List.flatMap_cons,List.length_append,List.length_cons]
  omega

/-! ### The document's way -/

/-! ### A directory's rows -/
def ui (p:List UInt8×U11):Us:=⟨zI p.1,zI p.2.hs,zI p.2.ml,p.2.dis,none,p.2.gs.map zI,0⟩
theorem bl_tx12 (N:List (List UInt8)):uk (N.map zI)=N:=by
 unfold uk
 rw [List.map_map]
 conv=>rhs; rw [← List.map_id N]
 exact List.map_congr_left fun x _=>zy x
theorem tx_bl12 (G:List ByteArray):(uk G).map zI=G:=by
 unfold uk
 rw [List.map_map]
 conv=>rhs; rw [← List.map_id G]
 exact List.map_congr_left fun x _=>xo x
theorem Zh (l:List Us):(vC l).map ui=l.map xf:=by
 unfold vC
 rw [List.map_map]
 refine List.map_congr_left fun u _=>?_
 show (⟨zI u.nm.data.toList,zI u.hs.data.toList,zI u.ml.data.toList,u.dis,none,(uk u.gs).map zI,0⟩:Us)=xf u
 rw [xo,xo,xo,tx_bl12]
 rfl
def VP (T:yA) (N:List (List UInt8)):List UInt8:=folB (T.map ui) (N.map zI)
theorem folT_of12 (l:List Us) (G:List ByteArray):VP (vC l) (uk G)=folB l G:=by
 unfold VP
 rw [Zh,tx_bl12,VQ]
theorem Zp:∀ {ss:List ByteArray},(ss.Pairwise fun a b=>bytesBefore a.data.toList b.data.toList=true)→zX ss=true
 | [],_=>rfl
 | [_],_=>rfl
 | a::b::r,h=>by
  obtain ⟨h1,h2⟩:=List.pairwise_cons.1 h
  unfold zX
  rw [Zp h2,Bool.and_true]
  unfold yY
  rw [ux]
  exact h1 b (List.mem_cons_self ..)
theorem Zo {N:List (List UInt8)} (h:ut N):zX (N.map zI)=true:=by
 refine Zp (List.pairwise_map.2 (List.Pairwise.imp (fun {a b} hab=>?_) h))
 rw [zy,zy]
 exact hab
theorem Xb {N:List (List UInt8)} (h:∀ n∈N,zf n=true):yy (N.map zI)=true:=by
 unfold yy
 rw [List.all_eq_true]
 intro g hg
 obtain ⟨n,hn,rfl⟩:=List.mem_map.1 hg
 rw [zy]
 exact h n hn
section
variable {A:zJ} {L:zB} {S:zw} {k:Nat}
theorem Fv (h:zt A L S k) (n:List UInt8):jX (zI (xk L n))=true:=by
 unfold jX
 rw [Bool.or_eq_true,Bool.and_eq_true,decide_eq_true_eq,decide_eq_true_eq,zy,xF]
 cases hh:xj L n with
 | false=>exact .inl (by rw [yW hh]; rfl)
 | true =>
  obtain ⟨_,h2,h3⟩:=h.all _ (xU hh)
  refine .inr ⟨h2,?_⟩
  unfold qf
  rw [if_pos h2]
  show zI (zO (xk L n))=_
  rw [h3]
theorem good_chk12 (h:zt A L S k) (p:List UInt8×(List UInt8×Bool)) (hp:p∈A):xK 2 (ui (p.1,xQ L S p.1 p.2))=0:=by
 obtain ⟨h1,h2⟩:=h.nm p hp
 have h3:=Fv h p.1
 have h4:((yV S p.1).map zI).length≤6:=by rw [List.length_map]; exact Nat.le_trans (X6 S p.1) h.grp.few
 have h5:yy ((yV S p.1).map zI)=true:=Xb fun g hg=>by
  obtain ⟨q,hq,rfl⟩:=List.mem_map.1 (jK hg)
  exact h.grp.named q hq
 have h6:zX ((yV S p.1).map zI)=true:=Zo (xM h.grp.rise p.1)
 unfold xK
 dsimp only
 rw [if_neg (by decide)]
 show zN [zN [zp (ZB 2) 6,zp (zf (zI p.1).data.toList) 10,zp (yo (zI p.2.1).data.toList) 4],zp (jX (zI (xk L p.1))) 11,zp (decide (((yV S p.1).map zI).length≤6)) 7,zp (yy ((yV S p.1).map zI)) 10,zp (zX ((yV S p.1).map zI)) 9]=0
 rw [zy,zy,h1,h2,h3,h5,h6,decide_eq_true h4]
 rfl
theorem fJ (A:zJ) (L:zB) (S:zw):(zc A L S).map ui=A.map fun p=>ui (p.1,xQ L S p.1 p.2):=by
 unfold zc
 rw [List.map_map]
 rfl
theorem Zv:∀ {l:List Us},(∀ u∈l,xK 2 u=0)→xY l=0
 | [],_=>rfl
 | u::l,h=>by
  unfold xY
  rw [if_pos (h u (List.mem_cons_self ..))]
  exact Zv fun x hx=>h x (List.mem_cons_of_mem _ hx)
theorem fo (G:List ByteArray):∀ (l pre:List Us),(∀ u∈l,u.gs.all (fun g=>vl (uk G) g.data.toList)=true)→(pre++l).Pairwise (fun u v=>u.ml.data.toList≠[]→v.ml.data.toList≠u.ml.data.toList)→xe G pre l=0
 | [],_,_,_=>rfl
 | u::l,pre,h1,h2=>by
  obtain ⟨_,_,p3⟩:=List.pairwise_append.1 h2
  have h0:xX G pre u=0:=by
   unfold xX
   rw [if_pos (h1 u (List.mem_cons_self ..)),if_neg]
   rw [Bool.not_eq_true,List.any_eq_false]
   intro v hv hc
   rw [Bool.and_eq_true,Bool.not_eq_true',beq_eq_false_iff_ne,beq_iff_eq] at hc
   exact p3 v hv u (List.mem_cons_self ..) (by rw [← hc.2]; exact hc.1) hc.2
  show (if xX G pre u=0 then xe G (pre++[u]) l else xX G pre u)=0
  rw [if_pos h0]
  exact fo G l (pre++[u]) (fun x hx=>h1 x (List.mem_cons_of_mem _ hx)) (by rw [List.append_assoc]; exact h2)
theorem J7 (h:zt A L S k):uR ((zc A L S).map ui) ((zb S).map zI)=0:=by
 have h1:xY ((zc A L S).map ui)=0:=Zv fun u hu=>by
  rw [fJ] at hu
  obtain ⟨p,hp,rfl⟩:=List.mem_map.1 hu
  exact good_chk12 h p hp
 have h2:zX (((zc A L S).map ui).map (·.nm))=true:=by
  have e:((zc A L S).map ui).map (·.nm)=(zb A).map zI:=by
   rw [fJ,List.map_map]
   unfold zb
   rw [List.map_map]
   rfl
  rw [e]
  exact Zo (zA.names h.rise)
 have h3:((zc A L S).map ui).length≤12:=by rw [List.length_map,um]; exact h.few
 have h4:yy ((zb S).map zI)=true:=Xb fun n hn=>by
  obtain ⟨q,hq,rfl⟩:=List.mem_map.1 hn
  exact h.grp.named q hq
 have h5:zX ((zb S).map zI)=true:=Zo (zA.names h.grp.rise)
 have h6:((zb S).map zI).length≤6:=by
  rw [List.length_map]
  unfold zb
  rw [List.length_map]
  exact h.grp.few
 have h7:xe ((zb S).map zI) [] ((zc A L S).map ui)=0:=by
  refine fo _ _ _ (fun u hu=>?_) ?_
  ·
   rw [fJ] at hu
   obtain ⟨p,hp,rfl⟩:=List.mem_map.1 hu
   rw [List.all_eq_true]
   intro g hg
   obtain ⟨x,hx,rfl⟩:=List.mem_map.1 (show g∈(yV S p.1).map zI from hg)
   rw [bl_tx12,zy,ve]
   exact jK hx
  ·
   rw [List.nil_append,fJ]
   refine List.pairwise_map.2 (List.Pairwise.imp (fun {p q} hpq=>?_) h.rise)
   show (zI (xk L p.1)).data.toList≠[]→(zI (xk L q.1)).data.toList≠(zI (xk L p.1)).data.toList
   rw [zy,zy]
   intro hne he
   obtain ⟨M,hM⟩:=h.mir
   have hp:xj L p.1=true:=by
    cases hh:xj L p.1 with
    | true=>rfl
    | false=>exact absurd (yW hh) hne
   have hq:xj L q.1=true:=by
    cases hh:xj L q.1 with
    | true=>rfl
    | false=>exact absurd (he ▸ yW hh) hne
   have m1:=(hM.iff _ _).1 (xU hp)
   have m2:=(hM.iff _ _).1 (xU hq)
   rw [he] at m2
   have e:=Uj hM.rm m1 m2
   rw [e] at hpq
   rw [zD] at hpq
   cases hpq
 unfold uR X5
 rw [h1,h2,decide_eq_true (show ((((zc A L S).map ui).length:Nat):Int)≤12 by omega),h4,h5,if_pos h6,h7]
 rfl
end
end Go.Proofs.YthmomkjingcbiaaGreatDoor
namespace Go.Proofs.YthmomkjingcbiaaGreatDoor
open Go.RowKit Go.Maps Go.Sort Go.Shelf

def Q6 (w:World) (B:Nat) (bs:List UInt8) (e:Ending) (w':World):Prop:=e=.returned (.pointer (some ⟨B,0,none⟩))∧NW6 w B bs w'
theorem NW6.byte12 {w W:World} {B:Nat} {bs:List UInt8} (xi:Int) (x:Nat) (h:NW6 w B bs W) (ex:xi=x) (hx:x<256) (hr:bs.length≤500000) :
  Calls Tryz.prog 36 #[.pointer (some ⟨B,0,none⟩),.int .u8 xi] W (Q6 w B (bs++le x 1)):=by
 subst ex
 obtain ⟨hB,⟨v,hw,hv⟩,ht⟩:=h
 exact (VW B v bs x W hw hx (by omega)).mono fun e w' ⟨he,hg⟩=>⟨he,hg.nw6 hB hv ht⟩
theorem NW6.two12 {w W:World} {B:Nat} {bs:List UInt8} (xi:Int) (x:Nat) (h:NW6 w B bs W) (ex:xi=x) (hx:x<65536) (hr:bs.length≤500000) :
  Calls Tryz.prog 37 #[.pointer (some ⟨B,0,none⟩),.int .u16 xi] W (Q6 w B (bs++le x 2)):=by
 subst ex
 obtain ⟨hB,⟨v,hw,hv⟩,ht⟩:=h
 exact (fI B v bs x W hw hx (by omega)).mono fun e w' ⟨he,hg⟩=>⟨he,hg.nw6 hB hv ht⟩
theorem NW6.row12 {w W:World} {B:Nat} {bs:List UInt8} {b c:Nat} {A:Option Addr} (ss:List ByteArray) (h:NW6 w B bs W) (ho:W.ownsRow b 9 1 (.slice A ss.length c) ss.length (xG ss)) (hl:ss.length≤65535) (hs:∀ s∈ss,s.size≤65535) (hr:bs.length≤500000) :
  Calls Tryz.prog 46 #[.pointer (some ⟨B,0,none⟩),.slice A ss.length c] W (Q6 w B (bs++rowB ss)):=by
 obtain ⟨hB,⟨v,hw,hv⟩,ht⟩:=h
 obtain ⟨f1,_,f3,f4⟩:=X3 ho rfl
 refine (Qm B v bs A ss.length c ss W hw f3 f4 (by omega) f1 (fun hne a ha=>?_) hs (by omega)).mono fun e w' ⟨he,hg⟩=>⟨he,hg.nw6 hB hv ht⟩
 rcases ho.2 with ⟨h0,h1⟩ | ⟨g,cap,cur,hv',_,hg,_⟩
 ·
  exact absurd (List.eq_nil_of_length_eq_zero h1) hne
 ·
  injection hv' with hA _ _
  rw [hA] at ha
  injection ha with ha
  subst ha
  rintro (he | he)
  ·
   have he':g=B:=he
   subst he'
   have:=hw.1.symm.trans hg
   simp at this
  ·
   rcases hw.2.2 with ⟨hv2,_⟩ | ⟨g',cap',cur',hv2,_,hg',_⟩
   ·
    rw [hv2] at he; simp [Value.ownBlock] at he
   ·
    rw [hv2] at he
    have:g'=g:=by simpa [Value.ownBlock] using he
    subst this
    have:=hg'.symm.trans hg
    simp at this

theorem plU_us12 (R:zL W11):vC (R.map us11)=ze R:=by
 unfold vC ze
 rw [List.map_map]
 refine List.map_congr_left fun q _=>?_
 show ((zI q.1).data.toList,(⟨q.2.hs.data.toList,q.2.ml.data.toList,q.2.dis,uk (q.2.gs.map zI)⟩:U11))=(q.1,q.2.u)
 rw [zy,bl_tx12]
 rfl
theorem Fz (N:List (List UInt8)):N.map encStr=xG (N.map zI):=by
 unfold xG
 rw [List.map_map]
 rfl
section
variable {w0 w:World} {D P M G:Nat} {A:zJ} {L:zB} {S:zw} {k:Nat}
theorem Y0 (ho:zo w0 w D P M G A L S) (hg:zt A L S k):Calls Tryz.prog 45 #[.pointer (some ⟨D,0,none⟩)] w fun e w' =>
  ∃ Aa c l,e=.returned (.slice Aa l.length c)∧YA w' Aa l∧(∀ u∈l,u.Ok w')∧vC l=zc A L S∧Below w.heap.size w w':=by
 refine (QP ho hg).mono fun e w' ⟨v,R,he,hr,hp,hb⟩=>?_
 have hs:=short11 hg
 have hr0:=hr.low (Nat.zero_le _)
 obtain ⟨Aa,c,rfl⟩:=hr0.rw.us.shape
 obtain ⟨h1,h2⟩:=rd_us11 hr0.rw.us
 refine ⟨Aa,c,R.map us11,by rw [← h1]; exact he,h2,fun u hu=>?_,by rw [plU_us12]; exact hp,hb⟩
 obtain ⟨q,hq,rfl⟩:=List.mem_map.1 hu
 have hm:(q.1,q.2.u)∈zc A L S:=by rw [← hp]; exact List.mem_map.2 ⟨q,hq,rfl⟩
 have a2:=hs.hs _ hm
 have a3:=hs.ml _ hm
 exact us11_ok (hr0.2 q hq) (hs.nm _ hm) (by rw [← zq]; exact a2) (by rw [← zq]; exact a3) (hs.gs _ hm)
theorem jx (ho:zo w0 w D P M G A L S) (hg:zt A L S k):Calls Tryz.prog 47 #[.pointer (some ⟨D,0,none⟩)] w fun e w' =>
  ∃ Aa c,e=.returned (.slice Aa ((zb S).map zI).length c)∧w'.ownsRow 0 9 1 (.slice Aa ((zb S).map zI).length c) ((zb S).map zI).length (xG ((zb S).map zI))∧Below w.heap.size w w':=by
 refine (X9 ho hg.grp).mono fun e w' ⟨v,he,hr,hb⟩=>?_
 have hr0:=zC hr (Nat.zero_le _)
 obtain ⟨Aa,c,rfl⟩:=vk hr0
 rw [Fz] at hr0
 refine ⟨Aa,c,by rw [List.length_map]; exact he,?_,hb⟩
 rw [List.length_map]
 exact hr0

set_option maxRecDepth 100000 in
theorem Vd (ho:zo w0 w D P M G A L S) (hg:zt A L S k) (h5:vR w) :
  Calls Tryz.prog 16 #[.pointer (some ⟨D,0,none⟩)] w (Told6 w (VP (zc A L S) (zb S))):=by
 have hz:=J7 hg
 have hmay:=may12 hz
 have HAL:Hid (Calls Tryz.prog 45 #[.pointer (some ⟨D,0,none⟩)] w fun e w'=>∃ Aa c l,e=.returned (.slice Aa l.length c)∧YA w' Aa l∧(∀ u∈l,u.Ok w')∧l.map xf=(zc A L S).map ui∧Below w.heap.size w w') :=
  (Y0 ho hg).mono fun e w' ⟨Aa,c,l,h1,h2,h3,h4,h5⟩=>⟨Aa,c,l,h1,h2,h3,by rw [← Zh,h4],h5⟩
 have HGR:Hid (∀ W,Below w.heap.size w W→Calls Tryz.prog 47 #[.pointer (some ⟨D,0,none⟩)] W fun e w'=>∃ Aa c,e=.returned (.slice Aa ((zb S).map zI).length c)∧w'.ownsRow 0 9 1 (.slice Aa ((zb S).map zI).length c) ((zb S).map zI).length (xG ((zb S).map zI))∧Below W.heap.size W w'):=fun W hb=>jx (ho.later hb) hg
 have H5:=za h5
 have hgz:=hmay.sizes
 have hg6:=hmay.gfew
 unfold VP
 generalize (zb S).map zI=Gs at *
 have HCH:Hid (∀ l:List Us,l.map xf=(zc A L S).map ui→l.length≤12∧(∀ u∈l,xK 2 u=0)∧folB ((zc A L S).map ui) Gs=folB l Gs):=fun l he=>by
  have m2:May12 l Gs:=may12 (by rw [← Yp,he]; exact hz)
  exact ⟨m2.few,m2.all,by rw [← he,VQ]⟩
 clear hz hmay h5 ho hg
 generalize (zc A L S).map ui=T at *
 generalize folB T Gs=out at *
 have HGZ:Hid (∀ g∈Gs,g.size≤65535):=fun g h=>Nat.le_trans (hgz g h) (by decide)
 have HRL:Hid ((rowB Gs).length≤1000):=by
  have:=uB hgz
  show (le Gs.length 2++yT Gs).length≤1000
  rw [List.length_append,xH]
  omega
 obtain ⟨m,hm⟩:∃ m,m=Gs.length:=⟨_,rfl⟩
 have HMG:=za hm
 rw [← hm] at HGR hg6
 clear hm hgz
 go_enter Tryz.func16,Tryz.ntmps16
 go_wp2_with fail
 with_reducible refine HAL.out.mono ?_
 rintro e w1 ⟨Aa,c,l,rfl,hu,hok,hse,hb⟩
 obtain ⟨hfew,hck,hfo⟩:=HCH.out l hse
 obtain ⟨n,hn⟩:∃ n,n=l.length:=⟨_,rfl⟩
 have HLN:Hid (n=l.length):=hn
 have HU:=za hu
 have HOK:=za hok
 have HCK:=za hck
 have HB1:=za hb
 have HSH:Hid (out=le 2 1++rowB Gs++le l.length 2++l.flatMap (Zg 2)):=by show out=_; rw [hfo]; unfold folB; simp only [List.append_assoc]
 have hbl:∀ k,((l.take k).flatMap (Zg 2)).length≤137 * 12:=fun k=>by
  have:=jb (l:=l.take k) (fun q hq=>hck q (List.mem_of_mem_take hq))
  have h2:(l.take k).length≤l.length:=by rw [List.length_take]; omega
  omega
 have HBL:=za hbl
 rw [← hn] at hfew HSH ⊢
 have HM1:=za (H5.out.later hb)
 clear hu hok hck hse hfo hb HAL HCH hn hbl H5
 have HZ:=za (NW6.zero w1)
 go_wp2_with fail
 with_reducible refine (NW6.byte12 _ 2 HZ.out (by simp) (by omega) (by simp)).mono ?_
 rintro e w2 ⟨rfl,h1⟩
 rw [List.nil_append] at h1
 have H1:=za h1
 have HG2:=za (HGR.out w2 (z8 HB1.out h1.2.2))
 clear h1 HZ HGR
 go_wp2_with fail
 with_reducible refine HG2.out.mono ?_
 rintro e w3 ⟨Ag,cg,rfl,hog,hb⟩
 have H2:=za (H1.out.below hb)
 have HOG:=za hog
 clear hb hog HG2 H1
 have HRC:Hid (Calls Tryz.prog 46 #[.pointer (some ⟨w1.heap.size,0,none⟩),.slice Ag m cg] w3 (Q6 w1 w1.heap.size (le 2 1++rowB Gs))):=by
  have ho:=HOG.out
  rw [HMG.out] at ho ⊢
  exact NW6.row12 Gs H2.out ho (by rw [← HMG.out]; omega) HGZ.out (by rw [xH]; omega)
 go_wp2_with fail
 with_reducible refine HRC.out.mono ?_
 rintro e w4 ⟨rfl,h1⟩
 have H3:=za h1
 clear h1 HRC H2 HOG
 go_wp2_with fail
 with_reducible refine (NW6.two12 _ n H3.out (by go_num) (by omega) (by have:=HRL.out; rw [List.length_append,xH]; omega)).mono ?_
 rintro e w5 ⟨rfl,h1⟩
 have H4:=za h1
 have hpre:(le 2 1++rowB Gs++le n 2).length≤2000:=by have:=HRL.out; rw [List.length_append,List.length_append,xH,xH]; omega
 clear h1 H3
 generalize le 2 1++rowB Gs++le n 2=pre at *
 generalize hB:w1.heap.size=BW at *
 have HBW:=za hB
 clear hB
 go_wp2
 go_loopg [6,21] n (fun gg _ s21 wr=>∃ k:Nat,k≤n∧n - k≤gg∧s21=.int .i64 k∧Hid (NW6 w1 BW (pre++(l.take k).flatMap (Zg 2)) wr))
 case atStart=>exact ⟨0,Nat.zero_le _,by omega,rfl,by show NW6 w1 BW (pre++[]) w5; rw [List.append_nil]; exact H4.out⟩
 case round =>
  clear H4
  obtain ⟨k,hk,hg,rfl,HW⟩:=hrel
  have hbw:=HW.out.2.2
  by_cases hlt:k<n
  ·
   have hltz:(k:Int)<(n:Int):=by omega
   have hkl:k<l.length:=HLN.out ▸ hlt
   obtain ⟨b,off,rfl,hb,hc⟩:=(HU.out.later hbw) (by intro e; rw [e] at hkl; exact absurd hkl (Nat.not_lt_zero _))
   have c0:wr.cell? ⟨b,off+k * 5,none⟩=some (.string l[k].nm):=hc k hkl 0 _ rfl
   have c1:wr.cell? ⟨b,off+k * 5+1,none⟩=some (.string l[k].hs):=hc k hkl 1 _ rfl
   have c2:wr.cell? ⟨b,off+k * 5+2,none⟩=some (.string l[k].ml):=hc k hkl 2 _ rfl
   have c3:wr.cell? ⟨b,off+k * 5+3,none⟩=some (.bool l[k].dis):=hc k hkl 3 _ rfl
   have c4:wr.cell? ⟨b,off+k * 5+4,none⟩=some (.slice l[k].ga l[k].gs.length l[k].gc):=hc k hkl 4 _ rfl
   have hb1:=z7 (Below.refl wr.heap.size wr) (.cells #[.string l[k].nm,.string l[k].hs,.string l[k].ml,.bool l[k].dis,.slice l[k].ga l[k].gs.length l[k].gc] 47)
   have hch:=HCK.out l[k] (List.getElem_mem hkl)
   have hlen:(pre++(l.take k).flatMap (Zg 2)).length≤100000:=by have:=HBL.out k; rw [List.length_append]; omega
   have HP:Hid (Calls Tryz.prog 38 #[.pointer (some ⟨BW,0,none⟩),.int .i64 2,.agg #[.string l[k].nm,.string l[k].hs,.string l[k].ml,.bool l[k].dis,.slice l[k].ga l[k].gs.length l[k].gc]] (wr.alloc (.cells #[.string l[k].nm,.string l[k].hs,.string l[k].ml,.bool l[k].dis,.slice l[k].ga l[k].gs.length l[k].gc] 47)) fun e w'=>e=.returned (.bool true)∧NW6 w1 BW (pre++(l.take (k+1)).flatMap (Zg 2)) w'):=by
    refine (put6_wide w1 BW _ 2 l[k] _ (HW.out.below hb1) (HOK.out _ (List.getElem_mem hkl)) HM1.out hlen).mono fun e w' h=>?_
    rcases h with ⟨_,he,hn⟩ | ⟨h0,_⟩
    ·
     refine ⟨he,?_⟩
     rw [List.take_succ_eq_append_getElem hkl,List.flatMap_append,List.flatMap_singleton,← List.append_assoc]
     exact hn
    ·
     exact absurd hch h0
   clear hc hb hb1 hch hlen hbw HW
   generalize l[k].nm=nm at *
   generalize l[k].hs=hs at *
   generalize l[k].ml=ml at *
   generalize l[k].dis=dis at *
   generalize l[k].ga=ga at *
   generalize l[k].gs.length=gl at *
   generalize l[k].gc=gc at *
   go_wp2_with (go_at_call 38; (with_reducible refine HP.out.mono ?_); rintro e w6 ⟨rfl,h4⟩; have H5:=za h4; clear h4)
   go_roundg (n - (k+1))
   case measure=>omega
   case rel=>exact ⟨k+1,by omega,by omega,by go_num,H5⟩
  ·
   have hltz:¬ (k:Int)<(n:Int):=by omega
   obtain rfl:k=n:=by omega
   have hw:=HW.out
   rw [List.take_of_length_le (by have:=HLN.out; omega),← HSH.out] at hw
   have hol:out.length≤1000000:=by
    have:=HBL.out k
    rw [List.take_of_length_le (by have:=HLN.out; omega)] at this
    rw [HSH.out,List.length_append]
    omega
   have HBY:=za (hw.bytes hol)
   have HBB:=za (z8 HB1.out hw.2.2)
   have hszb:=HBB.out.size
   clear hw hol hbw HW
   go_wp2_with fail
   with_reducible refine HBY.out.mono ?_
   rintro e w7 ⟨v7,rfl,ho,hn,hb⟩
   have HF:Hid (Told6 w out (.returned v7) w7):=⟨v7,rfl,ho,fun j hj=>Nat.le_trans hszb (hn j hj),z8 HBB.out hb⟩
   clear ho hn hb HBY
   go_wp2
   go_ret
   exact HF.out
end

def uC:List UInt8→Int
 | []=>0
 | b::_=>if b.toNat=1∨b.toNat=2 then b.toNat else 0
set_option maxRecDepth 100000 in
theorem JU (u:Value) (bs:List UInt8) (w:World) (hu:Rd w u bs) :
  Calls Tryz.prog 9 #[u] w fun e w'=>e=.returned (.int .i64 (uC bs))∧w=w':=by
 obtain ⟨A0,c0,rfl⟩:=hu.shape
 cases bs with
 | nil =>
  clear hu
  show Calls Tryz.prog 9 #[.slice A0 0 c0] w fun e w'=>e=.returned (.int .i64 0)∧w=w'
  go_enter Tryz.func9,Tryz.ntmps9
  go_wp2
  go_ret
  exact ⟨rfl,rfl⟩
 | cons b r =>
  obtain ⟨g,off,c,he,hc⟩:=hu.at_ 0 (by simp)
  injection he with e1 _ e3
  subst e1 e3
  rw [Nat.add_zero] at hc
  have hcell:w.cell? ⟨g,off,none⟩=some (.int .u8 (b.toNat:Int)):=hc
  have hs:uC (b::r)=if b.toNat=1∨b.toNat=2 then (b.toNat:Int) else 0:=rfl
  rw [hs]
  have hb:b.toNat<256:=b.toNat_lt
  clear hc hs hu
  obtain ⟨n,hn⟩:∃ n,n=(b::r).length:=⟨_,rfl⟩
  have hp:0<n:=by rw [hn]; simp
  have hpz:(n:Int) > 0:=by omega
  rw [← hn]
  clear hn
  generalize b.toNat=x at *
  by_cases h1:x=1
  ·
   subst h1
   go_enter Tryz.func9,Tryz.ntmps9
   go_wp2
   go_ret
   exact ⟨rfl,rfl⟩
  ·
   by_cases h2:x=2
   ·
    subst h2
    go_enter Tryz.func9,Tryz.ntmps9
    go_wp2
    go_ret
    exact ⟨rfl,rfl⟩
   ·
    have z1:((x:Int) == 1)=false:=by simp; omega
    have z2:((x:Int) == 2)=false:=by simp; omega
    rw [if_neg (by omega)]
    go_enter Tryz.func9,Tryz.ntmps9
    go_wp2
    go_ret
    exact ⟨rfl,rfl⟩

/-! ### One user of any bytes -/
structure Us.Wide (u:Us):Prop where
 nm:u.nm.size≤100000
 hs:u.hs.size≤100000
 ml:u.ml.size≤100000
 all:∀ s∈u.gs,s.size≤100000


/-! ### Part by part -/



structure Mem12 (b:Nat) (w:World) (v:Value) (n:Nat) (l l2:List Us):Prop where
 same:l2.map xf=l
 row:w.ownsRow b 47 5 v n (vT l2)
 wide:∀ u∈l2,u.Wide
 txt:∀ u∈l2,w.ownsRow b 9 1 (.slice u.ga u.gs.length u.gc) u.gs.length (xG u.gs)
theorem Mem12.turns {S:Nat→Prop} {b n:Nat} {w w':World} {v:Value} {l l2:List Us} (h:Mem12 b w v n l l2) (ht:zm S w w') (hS:∀ k,b≤k→¬ S k):Mem12 b w' v n l l2 :=
 ⟨h.same,qq h.row (Nat.le_refl _) ht hS,h.wide,fun u hu=>qq (h.txt u hu) (Nat.le_refl _) ht hS⟩
theorem Mem12.ok {b n:Nat} {w:World} {v:Value} {l l2:List Us} (h:Mem12 b w v n l l2):∀ u∈l2,u.Ok w:=fun u hu=>by
 obtain ⟨f1,f2,f3,f4⟩:=X3 (h.txt u hu) rfl
 have hw:=h.wide u hu
 exact ⟨f1,Nat.le_trans hw.nm (by omega),Nat.le_trans hw.hs (by omega),Nat.le_trans hw.ml (by omega),f2,f3,f4,fun s hs=>Nat.le_trans (hw.all s hs) (by omega)⟩


end Go.Proofs.YthmomkjingcbiaaGreatDoor
namespace Go.Proofs.YthmomkjingcbiaaGreatDoor
open Go.RowKit Go.Maps

def upV13 (h:List UInt8):U11:=⟨h,[],false,[]⟩
def up13 (L:zB):yA:=L.map fun q=>(q.1,upV13 q.2)
structure qJ (L:zB):Prop where
 rise:vi L
 few:L.length≤12
 all:∀ q∈L,zf q.1=true∧yo q.2=true
theorem qJ.nil:qJ []:=⟨List.Pairwise.nil,Nat.zero_le _,fun _ h=>nomatch h⟩

variable {L:zB}
/-! ### rows of both kinds -/

/-! ### deeds -/
theorem seE13 {L:zB} {n h:List UInt8} (e:seE L n h=0):zf n=true∧yo h=true∧xj L n=true:=by
 obtain ⟨e1,e⟩:=vJ e
 obtain ⟨e2,e⟩:=vJ e
 obtain ⟨e3,_⟩:=vJ e
 exact ⟨(jy (by decide)).1 e1,(jy (by decide)).1 e2,(jy (by decide)).1 e3⟩
theorem qJ.set (h:qJ L) (n s:List UInt8):qJ (seL L n s):=by
 unfold seL
 split
 ·
  next e =>
  obtain ⟨h1,h2,h3⟩:=seE13 e
  refine ⟨uW h.rise n s,?_,fun q hq=>?_⟩
  ·
   rw [qp h.rise,if_pos h3]
   exact h.few
  ·
   unfold uf at hq
   rcases Xc.1 hq with rfl | hq
   ·
    exact ⟨h1,h2⟩
   ·
    exact h.all q (yO.1 hq).1
 ·
  exact h

/-! ### what may be -/
theorem chk1_13 {q:List UInt8×List UInt8} (h1:zf q.1=true) (h2:yo q.2=true):xK 1 (zS q)=0:=by
 have b:vO (zS q)=true:=by
  unfold vO Y6 upU zS
  simp
 unfold xK
 rw [if_pos rfl,b]
 show zN [zN [zp (ZB 1) 6,zp (zf (tx7 q.1).data.toList) 10,zp (yo (tx7 q.2).data.toList) 4],zp true 12]=0
 rw [yC,yC,h1,h2]
 decide
theorem chk2_13 {q:List UInt8×List UInt8} (h1:zf q.1=true) (h2:yo q.2=true):xK 2 (zS q)=0:=by
 unfold xK
 rw [if_neg (by decide)]
 show zN [zN [zp (ZB 2) 6,zp (zf (tx7 q.1).data.toList) 10,zp (yo (tx7 q.2).data.toList) 4],zp (jX ⟨#[]⟩) 11,zp (decide (([]:List ByteArray).length≤6)) 7,zp (yy []) 10,zp (zX []) 9]=0
 rw [yC,yC,h1,h2]
 decide
theorem qJ.chk (h:qJ L):∀ q∈L,xK 1 (zS q)=0:=fun q hq=>chk1_13 (h.all q hq).1 (h.all q hq).2
theorem plU13 (L:zB):vC (L.map zS)=up13 L:=by
 unfold vC up13
 rw [List.map_map]
 refine List.map_congr_left fun q _=>?_
 show ((tx7 q.1).data.toList,(⟨(tx7 q.2).data.toList,[],false,[]⟩:U11))=(q.1,upV13 q.2)
 rw [yC,yC]
 rfl
theorem qJ.of (h:qJ L):uR (L.map zS) []=0:=by
 have h1:xY (L.map zS)=0:=Zv fun u hu=>by
  obtain ⟨q,hq,rfl⟩:=List.mem_map.1 hu
  exact chk2_13 (h.all q hq).1 (h.all q hq).2
 have h2:zX ((L.map zS).map (·.nm))=true:=by
  refine Zp ?_
  rw [List.map_map,List.pairwise_map]
  refine List.Pairwise.imp (fun {a b} hab=>?_) h.rise
  show bytesBefore (tx7 a.1).data.toList (tx7 b.1).data.toList=true
  rw [yC,yC]
  exact hab
 have h3:((((L.map zS).length:Nat):Int)≤12):=by have:=h.few; rw [List.length_map]; omega
 have h7:xe [] [] (L.map zS)=0:=by
  refine fo _ _ _ (fun u hu=>?_) ?_
  ·
   obtain ⟨q,_,rfl⟩:=List.mem_map.1 hu
   rfl
  ·
   rw [List.nil_append,List.pairwise_map]
   exact List.Pairwise.imp (fun {a b} _ hne=>absurd rfl hne) h.rise
 unfold uR X5
 rw [h1,h2,decide_eq_true h3,h7]
 rfl
theorem good_of13 (hq:∀ q∈L,xK 1 (zS q)=0) (ho:ofE (L.map zS)=0):qJ L:=by
 obtain ⟨_,h2,h3,_⟩:=ofE_zero ho
 rw [YQ] at h2
 rw [List.length_map] at h3
 refine ⟨h2,h3,fun q h=>?_⟩
 obtain ⟨_,a,b⟩:=qF (hq q h)
 unfold zS at a b
 dsimp only at a b
 rw [yC] at a b
 exact ⟨a,b⟩
theorem F6 {bs:List UInt8} (h:(jU bs).1=0):qJ (jU bs).2:=good_of13 (Qq h).1 (Qq h).2.1

/-! ### bytes -/
theorem folT_up13 (L:zB):VP (up13 L) []=folB (L.map zS) []:=by
 have:=folT_of12 (L.map zS) []
 rwa [plU13] at this
def Ut (bs:List UInt8):Int×List UInt8 :=
 if uC bs=2 then (if (read12 bs).1=0 then (0,bs) else ((read12 bs).1,[]))
 else (if (jU bs).1=0 then (0,folB ((jU bs).2.map zS) []) else ((jU bs).1,[]))
theorem mig_one13 {bs:List UInt8} (h:uC bs≠2):Ut bs=if (jU bs).1=0 then (0,folB ((jU bs).2.map zS) []) else ((jU bs).1,[]):=by
 unfold Ut
 rw [if_neg h]

/-! ### taken down -/
theorem mayE13:∀ {l:List Us},(∀ u∈l,xK 2 u=0)→mayE l=if l.all vO then 0 else 12
 | [],_=>rfl
 | u::l,h=>by
  have ih:=mayE13 (l:=l) (fun x hx=>h x (List.mem_cons_of_mem _ hx))
  obtain ⟨_,h2,h3⟩:=qF (h u (List.mem_cons_self ..))
  have e:xK 1 u=zp (vO u) 12:=by
   unfold xK
   rw [if_pos rfl,h2,h3]
   cases vO u <;> decide
  unfold mayE
  rw [e,ih,List.all_cons]
  cases vO u <;> simp [zp]
theorem ofE13 {l:List Us} {G:List ByteArray} (h:uR l G=0):ofE l=if l.all vO then 0 else 12:=by
 have hc:FQ l G=0:=by
  by_cases hc:FQ l G=0
  ·
   exact hc
  ·
   have:=(cE_of (l:=l) (G:=G)).1 hc
   rw [h] at this
   exact absurd this.symm hc
 obtain ⟨h1,h2,h3,_⟩:=Yv hc
 unfold ofE
 rw [mayE13 h1,h2,decide_eq_true (show ((l.length:Int)≤12) by omega)]
 cases l.all vO <;> decide
def qO (T:yA):Bool:=T.all fun p=>decide (p.2.ml=[]) && !p.2.dis
def down13 (T:yA):zB:=T.map fun p=>(p.1,p.2.hs)
theorem Jr {l:List Us} (hg:∀ u∈l,u.gs=[]):l.all vO=qO (vC l):=by
 unfold qO vC
 rw [List.all_map]
 rw [Bool.eq_iff_iff,List.all_eq_true,List.all_eq_true]
 refine forall_congr' fun u=>forall_congr' fun hu=>?_
 have e:=hg u hu
 show vO u=true↔(decide (u.ml.data.toList=[]) && !u.dis)=true
 unfold vO Y6 upU
 simp only [Bool.and_eq_true,decide_eq_true_eq,e,Bool.not_eq_true',true_and,and_true]
 constructor
 ·
  rintro ⟨h1,h2⟩
  exact ⟨by rw [h1],h2⟩
 ·
  rintro ⟨h1,h2⟩
  exact ⟨by
   have:=ul u.ml
   rw [h1] at this
   exact this.symm,h2⟩
theorem FA (l:List Us):fC l=down13 (vC l):=by
 unfold fC down13 vC
 rw [List.map_map]
 rfl
theorem up_down13 {T:yA} (h:qO T=true) (hg:∀ p∈T,p.2.gs=[]):up13 (down13 T)=T:=by
 unfold up13 down13
 rw [List.map_map]
 conv=>rhs; rw [← List.map_id T]
 refine List.map_congr_left fun p hp=>?_
 have h1:=List.all_eq_true.1 h p hp
 rw [Bool.and_eq_true,decide_eq_true_eq,Bool.not_eq_true'] at h1
 have h2:=hg p hp
 obtain ⟨n,hs,ml,dis,gs⟩:=p
 dsimp only at h1 h2
 obtain ⟨rfl,rfl⟩:=h1
 subst h2
 rfl
end Go.Proofs.YthmomkjingcbiaaGreatDoor
namespace Go.Proofs.YthmomkjingcbiaaGreatDoor
open Go.RowKit Go.Maps Go.Sort Go.Shelf

def Made13 (w:World) (T:yA) (e:Ending) (w':World):Prop :=
 ∃ D P M G A L S k,e=.returned (.pointer (some ⟨D,0,none⟩))∧zo w w' D P M G A L S∧zt A L S k∧zc A L S=T∧zb S=[]∧k≤200

theorem jl {w:World} {base g n cap size:Nat} {e:TypeId} {xs:List Value} (h:w.ownsRow base e size (.slice (some ⟨g,0,none⟩) n cap) n xs) (j:Nat) (u:Value) (hu:xs[j]? = some u):(w.setCell ⟨g,j,none⟩ u).ownsRow base e size (.slice (some ⟨g,0,none⟩) n cap) n xs:=by
 have h2:=(h.stored j u).1
 obtain ⟨hj,rfl⟩:=List.getElem?_eq_some_iff.1 hu
 rwa [List.set_getElem_self] at h2
section
variable {w:World} {base g n cap:Nat} {L:zB}
theorem vN (k:Nat) (hk:k<L.length) (j:Nat) (hj:j<5):(xz (L.map zS))[k * 5+j]? = (zS L[k]).cells[j]? := by
 rw [YE _ k j (by rw [List.length_map]; exact hk) hj,List.getElem_map]
theorem Js (h:w.ownsRow base 47 5 (.slice (some ⟨g,0,none⟩) n cap) n (xz (L.map zS))) (hn:n=L.length) (k:Nat) (hk:k<L.length) :
  w.cell? ⟨g,k * 5,none⟩=some (.string (tx7 L[k].1))∧w.cell? ⟨g,k * 5+1,none⟩=some (.string (tx7 L[k].2))∧w.cell? ⟨g,k * 5+2,none⟩=some (.string ⟨#[]⟩)∧w.cell? ⟨g,k * 5+3,none⟩=some (.bool false)∧w.cell? ⟨g,k * 5+4,none⟩=some (.slice none 0 0):=by
 have hc:∀ j,j<5→w.cell? ⟨g,k * 5+j,none⟩=(zS L[k]).cells[j]? := fun j hj=>(h.cellAt (k * 5+j) (by omega)).trans (vN k hk j hj)
 exact ⟨hc 0 (by decide),hc 1 (by decide),hc 2 (by decide),hc 3 (by decide),hc 4 (by decide)⟩
theorem bare_put13 (h:w.ownsRow base 47 5 (.slice (some ⟨g,0,none⟩) n cap) n (xz (L.map zS))) (k:Nat) (hk:k<L.length) :
  (((((w.setCell ⟨g,k * 5,none⟩ (.string (tx7 L[k].1))).setCell ⟨g,k * 5+1,none⟩ (.string (tx7 L[k].2))).setCell ⟨g,k * 5+2,none⟩ (.string ⟨#[]⟩)).setCell ⟨g,k * 5+3,none⟩ (.bool false)).setCell ⟨g,k * 5+4,none⟩ (.slice none 0 0)).ownsRow base 47 5 (.slice (some ⟨g,0,none⟩) n cap) n (xz (L.map zS)) :=
 jl (jl (jl (jl (jl h (k * 5) _ (vN k hk 0 (by decide))) (k * 5+1) _ (vN k hk 1 (by decide))) (k * 5+2) _ (vN k hk 2 (by decide))) (k * 5+3) _ (vN k hk 3 (by decide))) (k * 5+4) _ (vN k hk 4 (by decide))
end

set_option maxRecDepth 100000 in
theorem Qe (w:World):Calls Tryz.prog 14 #[.pointer none] w fun e w'=>e=.returned (.pointer none)∧w=w':=by
 go_enter Tryz.func14,Tryz.ntmps14
 go_wp2
 go_ret
 exact ⟨rfl,rfl⟩

set_option maxRecDepth 100000 in
theorem up13_calls {w0 w:World} {B:Nat} {L:zB} (h:jG w0 w B L) (hg:qJ L) (h5:vR w) :
  Calls Tryz.prog 14 #[.pointer (some ⟨B,0,none⟩)] w (Made13 w (up13 L)):=by
 have HAL:Hid (Calls Tryz.prog 27 #[.pointer (some ⟨B,0,none⟩)] w fun e w'=>∃ v,e=.returned v∧w'.ownsRow w.heap.size 47 5 v L.length (xz (L.map zS))∧Below w.heap.size w w') :=
  h.allu.mono fun e w' ⟨v,he,hu,hb⟩=>⟨v,he,by rw [← Qb]; exact hu,hb⟩
 have hnl:(L.map zS).length=L.length:=List.length_map _
 have HBO:Hid (∀ W,∀ u∈L.map zS,u.Ok W):=fun W u hu=>by
  obtain ⟨q,hq,rfl⟩:=List.mem_map.1 hu
  exact bare7_ok (h.all q hq)
 obtain ⟨n,hn⟩:∃ n,n=L.length:=⟨_,rfl⟩
 have HLN:Hid (n=L.length):=hn
 have hn12:n≤12:=by rw [hn]; exact h.few
 have HOF:Hid (∀ A c W,YA W A (L.map zS)→vR W→Calls Tryz.prog 41 #[.slice A n c,.slice none 0 0] W fun e w'=>∃ D P M G A' L' S k,e=.returned (.tuple #[.pointer (some ⟨D,0,none⟩),.int .i64 0])∧zo W w' D P M G A' L' S∧zt A' L' S k∧zc A' L' S=up13 L∧zb S=[]∧k≤200):=fun A c W hr hm=>by
  refine (Fi A none c 0 n 0 (L.map zS) [] W (by rw [hn]; exact hnl.symm) (by omega) hr (HBO.out W) rfl (by omega) (fun h=>absurd rfl h) (fun _ h=>nomatch h) hm).mono fun e w' hh=>?_
  unfold Of11 at hh
  rcases hh with ⟨h0,_⟩ | ⟨_,D,P,M,Gr,A',L',S,k,he,ho,hs,hk⟩
  ·
   exact absurd hg.of h0
  ·
   exact ⟨D,P,M,Gr,A',L',S,k,he,ho,hs.1.1,by rw [hs.1.2.1,plU13],hs.1.2.2,hk⟩
 have HM:=za h5
 rw [← hn] at HAL
 clear h hg h5 hn hnl HBO
 generalize hT:up13 L=T at *
 clear hT
 go_enter Tryz.func14,Tryz.ntmps14
 go_wp2_with fail
 with_reducible refine HAL.out.mono ?_
 rintro e w1 ⟨v,rfl,hu,hb⟩
 obtain ⟨A,c,rfl⟩:=vk (zC hu (Nat.zero_le _))
 have HU1:=za hu
 have HB1:=za hb
 clear hu hb HAL
 go_wp2
 go_loopg [4,5,14] n (fun gg _ _ s14 wr=>∃ k:Nat,k≤n∧n - k≤gg∧s14=.int .i64 k∧Hid (Below w.heap.size w wr)∧Hid (wr.ownsRow w.heap.size 47 5 (.slice A n c) n (xz (L.map zS))))
 case atStart=>exact ⟨0,Nat.zero_le _,by omega,rfl,HB1.out,HU1.out⟩
 case round =>
  clear HU1 HB1
  obtain ⟨k,hk,hg,rfl,HW,HO⟩:=hrel
  by_cases hlt:k<n
  ·
   have hltz:(k:Int)<(n:Int):=by omega
   have hkl:k<L.length:=HLN.out ▸ hlt
   obtain ⟨g,cap,hv,hgb,_⟩:=HO.out.form (by omega)
   injection hv with hA _ hc
   subst hA hc
   obtain ⟨c0,c1,c2,c3,c4⟩:=Js HO.out HLN.out k hkl
   have hba:=z7 (Below.refl wr.heap.size wr) (.cells #[.string (tx7 L[k].1),.string (tx7 L[k].2),.string ⟨#[]⟩,.bool false,.slice none 0 0] 47)
   have HUP:Hid (∀ W,Calls Tryz.prog 40 #[.agg #[.string (tx7 L[k].1),.string (tx7 L[k].2),.string ⟨#[]⟩,.bool false,.slice none 0 0]] W fun e w'=>e=.returned (.agg #[.string (tx7 L[k].1),.string (tx7 L[k].2),.string ⟨#[]⟩,.bool false,.slice none 0 0])∧Below W.heap.size W w'):=fun W=>Qd (zS L[k]) W
   have HNX:Hid (∀ W,Below (wr.alloc (.cells #[.string (tx7 L[k].1),.string (tx7 L[k].2),.string ⟨#[]⟩,.bool false,.slice none 0 0] 47)).heap.size (wr.alloc (.cells #[.string (tx7 L[k].1),.string (tx7 L[k].2),.string ⟨#[]⟩,.bool false,.slice none 0 0] 47)) W →
     (∀ j,W.frozen? ⟨g,j,none⟩=false)∧(W.cell? ⟨g,k * 5,none⟩=some (.string (tx7 L[k].1))∧W.cell? ⟨g,k * 5+1,none⟩=some (.string (tx7 L[k].2))∧W.cell? ⟨g,k * 5+2,none⟩=some (.string ⟨#[]⟩)∧W.cell? ⟨g,k * 5+3,none⟩=some (.bool false)∧W.cell? ⟨g,k * 5+4,none⟩=some (.slice none 0 0)) ∧
     Hid (Below w.heap.size w (((((W.setCell ⟨g,k * 5,none⟩ (.string (tx7 L[k].1))).setCell ⟨g,k * 5+1,none⟩ (.string (tx7 L[k].2))).setCell ⟨g,k * 5+2,none⟩ (.string ⟨#[]⟩)).setCell ⟨g,k * 5+3,none⟩ (.bool false)).setCell ⟨g,k * 5+4,none⟩ (.slice none 0 0))) ∧
     Hid ((((((W.setCell ⟨g,k * 5,none⟩ (.string (tx7 L[k].1))).setCell ⟨g,k * 5+1,none⟩ (.string (tx7 L[k].2))).setCell ⟨g,k * 5+2,none⟩ (.string ⟨#[]⟩)).setCell ⟨g,k * 5+3,none⟩ (.bool false)).setCell ⟨g,k * 5+4,none⟩ (.slice none 0 0)).ownsRow w.heap.size 47 5 (.slice (some ⟨g,0,none⟩) n c) n (xz (L.map zS)))):=fun W hb=>by
    have hb2:=z8 hba hb
    have ho2:=qq HO.out (Nat.le_refl _) (zm.of_below hb2 (fun _=>False)) (fun _ _ f=>f)
    have hbw:=z8 HW.out hb2
    exact ⟨fun j=>ho2.frozenAt j,Js ho2 HLN.out k hkl,((((hbw.setCell (p:=⟨g,k * 5,none⟩) hgb _).setCell (p:=⟨g,k * 5+1,none⟩) hgb _).setCell (p:=⟨g,k * 5+2,none⟩) hgb _).setCell (p:=⟨g,k * 5+3,none⟩) hgb _).setCell (p:=⟨g,k * 5+4,none⟩) hgb _,bare_put13 ho2 k hkl⟩
   clear hba HO HW
   generalize tx7 L[k].1=nm at *
   generalize tx7 L[k].2=hs at *
   go_wp2_with (go_at_call 40; (with_reducible refine (HUP.out _).mono ?_); rintro e w6 ⟨rfl,h4⟩; obtain ⟨f0,⟨d0,d1,d2,d3,d4⟩,R1,R2⟩:=HNX.out w6 h4; have e0:=f0 (k * 5); have e1:=f0 (k * 5+1); have e2:=f0 (k * 5+2); have e3:=f0 (k * 5+3); have e4:=f0 (k * 5+4); clear f0 h4 HNX HUP)
   go_roundg (n - (k+1))
   case measure=>omega
   case rel=>exact ⟨k+1,by omega,by omega,by go_num,R1,R2⟩
  ·
   have hltz:¬ (k:Int)<(n:Int):=by omega
   obtain rfl:k=n:=by omega
   have HOF1:=za (HOF.out A c wr (VE HO.out (by rw [List.length_map]; exact HLN.out)) (HM.out.later HW.out))
   clear HO HOF
   go_wp2_with fail
   with_reducible refine HOF1.out.mono ?_
   rintro e w2 ⟨D,P,M,G,A',L',S,q,rfl,ho,hgd,ht,hnm,hq⟩
   have HF:Hid (Made13 w T (.returned (.pointer (some ⟨D,0,none⟩))) w2):=⟨D,P,M,G,A',L',S,q,rfl,ho.base HW.out,hgd,ht,hnm,hq⟩
   clear ho hgd ht hnm hq HOF1 HW HM
   go_wp2
   go_ret
   exact HF.out

def FZ (w:World) (r:Int×List UInt8) (e:Ending) (w':World):Prop :=
 (r.1≠0∧e=.returned (.tuple #[.pointer none,.int .i64 r.1])∧Below w.heap.size w w') ∨
 (r.1=0∧∃ D P M G A L S k,e=.returned (.tuple #[.pointer (some ⟨D,0,none⟩),.int .i64 0])∧zo w w' D P M G A L S∧zt A L S k∧VP (zc A L S) (zb S)=r.2)
set_option maxRecDepth 100000 in
theorem Zu (u:Value) (bs:List UInt8) (w:World) (hu:Rd w u bs) (h2:uC bs≠2) (hl:bs.length≤1000) (hm:vR w) :
  Calls Tryz.prog 28 #[u] w (FZ w (Ut bs)):=by
 have HS:=za (JU u bs w hu)
 obtain ⟨A0,c0,rfl⟩:=hu.shape
 have HR:Hid (Calls Tryz.prog 86 #[.slice A0 bs.length c0] w fun e w'=>∃ dv er,e=.returned (.tuple #[dv,.int .i64 er])∧Hid (Calls Tryz.prog 14 #[dv] w' fun e2 w2=>∃ nv,e2=.returned nv∧FZ w (Ut bs) (.returned (.tuple #[nv,.int .i64 er])) w2)):=by
  refine (F7 _ bs w hu hl hm).mono fun e w' h=>?_
  rw [mig_one13 h2]
  have hg:=@F6 bs
  generalize jU bs=r at *
  rcases h with ⟨h0,he,hb⟩ | ⟨h0,B,he,ho⟩
  ·
   refine ⟨_,_,he,(Qe w').mono fun e2 w2 ⟨a,b⟩=>⟨_,a,.inl ⟨by rw [if_neg h0]; exact h0,by rw [if_neg h0],?_⟩⟩⟩
   rw [← b]
   exact hb
  ·
   refine ⟨_,_,he,(up13_calls ho (hg h0) (hm.later ho.below)).mono fun e2 w2 ⟨D,P,M,G,A,L,S,k,a,b,c,d,f,_⟩=>⟨_,a,.inr ⟨by rw [if_pos h0],D,P,M,G,A,L,S,k,rfl,b.base ho.below,c,?_⟩⟩⟩
   rw [if_pos h0,d,f,folT_up13]
 have hz:(uC bs == 2)=false:=by simpa using h2
 clear hu hl hm h2
 generalize Ut bs=r at *
 generalize bs.length=n at *
 generalize uC bs=sc at *
 go_enter Tryz.func28,Tryz.ntmps28
 go_wp2_with fail
 with_reducible refine HS.out.mono ?_
 rintro e w1 ⟨rfl,rfl⟩
 clear HS
 go_wp2_with fail
 with_reducible refine HR.out.mono ?_
 rintro e w2 ⟨dv,er,rfl,hu⟩
 clear HR
 go_wp2_with fail
 with_reducible refine hu.out.mono ?_
 rintro e w3 ⟨nv,rfl,hf⟩
 have HF:=za hf
 clear hf hu
 go_wp2
 go_ret2
 exact HF.out

def YB (w:World) (r:Int×List UInt8) (e:Ending) (w':World):Prop :=
 ∃ v,e=.returned (.tuple #[v,.int .i64 r.1])∧w'.ownsRow 0 5 1 v r.2.length (cellsOf r.2)∧(∀ k,v.ownBlock=some k→w.heap.size≤k)∧Below w.heap.size w w'
theorem mig_none13 {bs:List UInt8} (h:(Ut bs).1≠0):(Ut bs).2=[]:=by
 unfold Ut at h ⊢
 split
 ·
  split
  ·
   next h2 h0=>rw [if_pos h2,if_pos h0] at h; exact absurd rfl h
  ·
   rfl
 ·
  split
  ·
   next h2 h0=>rw [if_neg h2,if_pos h0] at h; exact absurd rfl h
  ·
   rfl

set_option maxRecDepth 100000 in
theorem Fm (u:Value) (r:Int×List UInt8) (w:World) (hr:Calls Tryz.prog 28 #[u] w (FZ w r)) (hn:r.1≠0→r.2=[]) (hu:∃ A n c,u=.slice A n c) (hm:vR w) :
  Calls Tryz.prog 7 #[u] w (YB w r):=by
 have HR:=za hr
 have HM:=za hm
 have HN:=za hn
 obtain ⟨A0,n,c0,rfl⟩:=hu
 clear hr hn hm
 obtain ⟨er,out⟩:=r
 go_enter Tryz.func7,Tryz.ntmps7
 go_wp2_with fail
 with_reducible refine HR.out.mono ?_
 rintro e w1 hcase
 clear HR
 rcases hcase with ⟨h0,rfl,hb⟩ | ⟨h0,D,P,M,G,A,L,S,k,rfl,ho,hg,ht⟩
 ·
  dsimp only at h0 HN ⊢
  have hz:(er != 0)=true:=by simpa using h0
  have hn:=HN.out h0
  subst hn
  have HF:Hid (YB w (er,[]) (.returned (.tuple #[.slice none 0 0,.int .i64 er])) w1):=⟨_,rfl,World.ownsRow_nil _ _ _ _,(fun k h=>by simp [Value.ownBlock] at h),hb⟩
  clear hb h0 HN
  go_wp2
  go_ret2
  exact HF.out
 ·
  dsimp only at h0 ht
  subst h0
  have HB:=Vd ho hg (HM.out.later ho.below)
  rw [ht] at HB
  have HB1:=za HB
  have HBL:=za ho.below
  clear HB ho hg ht HN HM
  go_wp2_with fail
  with_reducible refine HB1.out.mono ?_
  rintro e w2 ⟨v,rfl,hrow,hnew,hb⟩
  have HF:Hid (YB w (0,out) (.returned (.tuple #[v,.int .i64 0])) w2):=⟨v,rfl,hrow,fun k h=>Nat.le_trans HBL.out.size (hnew k h),z8 HBL.out hb⟩
  clear hrow hnew hb HB1 HBL
  go_wp2
  go_ret2
  exact HF.out

theorem ex13:Ut [1,0,0]=(0,[2,0,0,0,0]):=by decide +kernel
set_option maxRecDepth 100000 in
theorem lives13_calls (w:World) (h5:vR w):Calls Tryz.prog 6 #[] w (zY true w):=by
 have HB:Hid (∀ W A,Below w.heap.size w W→Rd W (.slice A 3 3) [1,0,0]→Calls Tryz.prog 7 #[.slice A 3 3] W (YB W (0,[2,0,0,0,0]))):=fun W A hb hr=>by
  have:=Fm _ _ W (Zu _ [1,0,0] W hr (by decide) (by decide) (h5.later hb)) (@mig_none13 [1,0,0]) ⟨_,_,_,rfl⟩ (h5.later hb)
  rwa [ex13] at this
 have hb:=z7 (Below.refl w.heap.size w) (.cells #[.int .u8 1,.int .u8 0,.int .u8 0] 5)
 have HB0:=za hb
 have HRD:Hid (Rd (w.alloc (.cells #[.int .u8 1,.int .u8 0,.int .u8 0] 5)) (.slice (some ⟨w.heap.size,0,none⟩) 3 3) [1,0,0]) :=
  ⟨some ⟨w.heap.size,0,none⟩,3,rfl,fun _=>⟨⟨w.heap.size,0,none⟩,rfl,by simp,fun j u hj=>by
   rw [Addr.add_lit,Nat.zero_add,World.cell?_alloc_at _ _ _ _ rfl]
   simpa [cellsOf] using hj⟩⟩
 have HC:=za (HB.out _ _ hb HRD.out)
 clear hb HB HRD h5
 go_enter Tryz.func6,Tryz.ntmps6
 go_wp2_with fail
 with_reducible refine HC.out.mono ?_
 rintro e w2 ⟨v2,rfl,ho,_,hb⟩
 have hrd:=(Rd.of_own ho).string (P:=Tryz.prog) (src:=22) (dst:=9) Tryz.underlying22 Tryz.underlying5 Tryz.underlying9
 obtain ⟨A2,c2,rfl⟩:=vk ho
 have HB2:=za (z8 HB0.out hb)
 clear ho hb HC
 have hrd6:(convert 22 9 (.slice A2 5 c2)).run Tryz.prog w2=.ok (.string ⟨#[2,0,0,0,0]⟩) w2:=hrd
 clear hrd
 go_wp2
 go_ret
 exact ⟨rfl,HB2.out⟩

section
variable {A:zJ} {L:zB} {S:zw} {k:Nat} {l:List Us}
theorem of_tell13 (hg:zt A L S k) (h:vC l=zc A L S):uR l ((zb S).map zI)=0:=by
 rw [← Yp,← Zh,h]
 exact J7 hg
theorem Fj (h0:zb S=[]):∀ p∈zc A L S,p.2.gs=[]:=fun p hp=>by
 obtain ⟨q,_,rfl⟩:=List.mem_map.1 hp
 refine List.eq_nil_iff_forall_not_mem.2 fun g hm=>?_
 have:=jK (show g∈yV S q.1 from hm)
 rw [h0] at this
 cases this
theorem QH (h:vC l=zc A L S) (h0:zb S=[]):∀ u∈l,u.gs=[]:=fun u hu=>by
 have hm:(u.nm.data.toList,(⟨u.hs.data.toList,u.ml.data.toList,u.dis,uk u.gs⟩:U11))∈zc A L S:=by
  rw [← h]
  exact List.mem_map.2 ⟨u,hu,rfl⟩
 have:=Fj h0 _ hm
 unfold uk at this
 exact List.map_eq_nil_iff.1 this
theorem ofE_tell13 (hg:zt A L S k) (h:vC l=zc A L S) (h0:zb S=[]):ofE l=if qO (zc A L S) then 0 else 12:=by
 rw [ofE13 (of_tell13 hg h),Jr (QH h h0),h]
theorem zt.down13 (hg:zt A L S k):qJ (down13 (zc A L S)):=by
 refine ⟨?_,?_,fun q hq=>?_⟩
 ·
  unfold vi Go.Proofs.YthmomkjingcbiaaGreatDoor.down13
  rw [List.pairwise_map]
  exact zK hg.rise
 ·
  unfold Go.Proofs.YthmomkjingcbiaaGreatDoor.down13
  rw [List.length_map,um]
  exact hg.few
 ·
  unfold Go.Proofs.YthmomkjingcbiaaGreatDoor.down13 at hq
  obtain ⟨p,hp,rfl⟩:=List.mem_map.1 hq
  obtain ⟨a,ha,rfl⟩:=List.mem_map.1 hp
  exact hg.nm a ha
end

set_option maxRecDepth 100000 in
theorem mdown0_13_calls (w:World):Calls Tryz.prog 25 #[.pointer none] w fun e w'=>e=.returned (.tuple #[.pointer none,.int .i64 12])∧w=w':=by
 go_enter Tryz.func25,Tryz.ntmps25
 go_wp2
 go_ret2
 exact ⟨rfl,rfl⟩
def Q5 (w:World) (T:yA) (N:List (List UInt8)) (e:Ending) (w':World):Prop :=
 ((N≠[]∨qO T=false)∧e=.returned (.tuple #[.pointer none,.int .i64 12])∧Below w.heap.size w w') ∨
 (N=[]∧qO T=true∧∃ B,e=.returned (.tuple #[.pointer (some ⟨B,0,none⟩),.int .i64 0])∧jG w w' B (down13 T))
theorem jG.base13 {w00 w0 W:World} {B:Nat} {L:zB} (h:jG w0 W B L) (hb:Below w00.heap.size w00 w0):jG w00 W B L:=by
 obtain ⟨p,hd,h1,h2,h3⟩:=h
 exact ⟨p,hd,Nat.le_trans hb.size h1,fun b e=>Nat.le_trans hb.size (h2 b e),z8 hb h3⟩

set_option maxRecDepth 100000 in
theorem mdown13_calls {w0 w:World} {D P M G:Nat} {A:zJ} {L:zB} {S:zw} {k:Nat} (ho:zo w0 w D P M G A L S) (hg:zt A L S k) (h5:vR w) :
  Calls Tryz.prog 25 #[.pointer (some ⟨D,0,none⟩)] w (Q5 w (zc A L S) (zb S)):=by
 have HGR:=za (jx ho hg)
 have hnl:((zb S).map zI).length=(zb S).length:=List.length_map _
 by_cases h0:zb S=[]
 case neg =>
  have hp:0<(zb S).length:=List.length_pos_iff.2 h0
  rw [hnl] at HGR
  have HN:Hid (zb S≠[]∨qO (zc A L S)=false):=.inl h0
  have hz:((zb S).length:Int) > 0:=by omega
  clear ho hg h5 h0 hnl
  generalize zc A L S=T at *
  generalize (zb S).length=n at *
  go_enter Tryz.func25,Tryz.ntmps25
  go_wp2_with fail
  with_reducible refine HGR.out.mono ?_
  rintro e w1 ⟨Aa,c,rfl,_,hb⟩
  have HF:Hid (Q5 w T (zb S) (.returned (.tuple #[.pointer none,.int .i64 12])) w1):=.inl ⟨HN.out,rfl,hb⟩
  clear hb HGR HN
  go_wp2
  go_ret2
  exact HF.out
 have HAL:Hid (∀ W,Below w.heap.size w W→Calls Tryz.prog 45 #[.pointer (some ⟨D,0,none⟩)] W fun e w'=>∃ Aa c n,e=.returned (.slice Aa n c)∧Hid (Below w.heap.size w w')∧Hid (Calls Tryz.prog 83 #[.slice Aa n c] w' fun e2 w2=>∃ dv er,e2=.returned (.tuple #[dv,.int .i64 er])∧Q5 w (zc A L S) (zb S) (.returned (.tuple #[dv,.int .i64 er])) w2)):=fun W hb=>by
  refine (Y0 (ho.later hb) hg).mono fun e w' ⟨Aa,c,l,he,hr,hok,hpl,hb2⟩=>⟨Aa,c,l.length,he,z8 hb hb2,?_⟩
  have hle:l.length≤1000:=by
   have:(vC l).length=l.length:=List.length_map _
   rw [hpl,um] at this
   have:=hg.few
   omega
  refine (QC Aa c l.length l w' rfl hle hr hok (h5.later (z8 hb hb2))).mono fun e2 w2 h=>?_
  rw [ofE_tell13 hg hpl h0] at h
  rcases h with ⟨hne,he2,hb3⟩ | ⟨hz,B,he2,ho2⟩
  ·
   cases hpp:qO (zc A L S) with
   | true=>rw [hpp] at hne; exact absurd rfl hne
   | false =>
    rw [hpp] at he2
    exact ⟨_,_,he2,.inl ⟨.inr hpp,rfl,z8 (z8 hb hb2) hb3⟩⟩
  ·
   cases hpp:qO (zc A L S) with
   | false=>rw [hpp] at hz; exact absurd hz (by decide)
   | true =>
    refine ⟨_,_,he2,.inr ⟨h0,hpp,B,rfl,?_⟩⟩
    rw [← hpl,← FA]
    exact ho2.base13 (z8 hb hb2)
 have hz:¬ (((zb S).map zI).length:Int) > 0:=by rw [h0]; simp
 have hz':¬ 0<((zb S).map zI).length:=by rw [h0]; simp
 clear ho hg h5 h0 hnl
 generalize Q5 w (zc A L S) (zb S)=Q at *
 generalize ((zb S).map zI).length=n at *
 go_enter Tryz.func25,Tryz.ntmps25
 go_wp2_with fail
 with_reducible refine HGR.out.mono ?_
 rintro e w1 ⟨Aa,c,rfl,_,hb⟩
 have HA1:=za (HAL.out w1 hb)
 clear hb HGR HAL
 go_wp2_with fail
 with_reducible refine HA1.out.mono ?_
 rintro e w2 ⟨Ab,cb,m,rfl,hb,hof⟩
 clear HA1 hb
 go_wp2_with fail
 with_reducible refine hof.out.mono ?_
 rintro e w3 ⟨dv,er,rfl,hf⟩
 have HF:=za hf
 clear hf hof
 go_wp2
 first | exact HF.out | (go_ret2; exact HF.out)
end Go.Proofs.YthmomkjingcbiaaGreatDoor
