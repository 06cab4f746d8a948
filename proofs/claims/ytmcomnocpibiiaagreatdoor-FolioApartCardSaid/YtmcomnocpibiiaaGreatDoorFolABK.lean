/-
  The texts that the laws of this seat share, part 11: what the code and the document's own answers tell, walked function by function.
  Conditions: each theorem's own.
-/
import Derived.Test.YtmcomnocpibiiaaGreatDoorFolABJ
set_option maxHeartbeats 16000000
namespace Go.Proofs.YtmcomnocpibiiaaGreatDoor
open Go.RowKit Go.Maps


section
variable {w0 w:World} {D P M G:Nat} {A:zG} {L:zQ} {S:zw} {k:Nat}
end

/-! ### stores beside a directory -/
def J9 (W:World) (b:Nat) (A:Option Addr) (n:Nat):Prop :=
 0<n→∃ g cur,A=some ⟨g,0,none⟩∧b≤g∧W.heap[g]? = some (.cells cur 9 (0,0))∧n≤cur.size∧n≤9223372036854775807
theorem J9.of {W:World} {b n c:Nat} {A:Option Addr} {xs:List Value} (h:W.ownsRow b 9 1 (.slice A n c) n xs):J9 W b A n:=fun hn=>by
 rcases h.2 with ⟨_,e⟩ | ⟨g,cap,cur,e,hb,hg,hc,hmx,hs,_⟩
 ·
  omega
 ·
  injection e with e1
  unfold maxLen at hmx
  exact ⟨g,cur,e1,hb,hg,by omega,by omega⟩
theorem J9.few {W:World} {b n:Nat} {A:Option Addr} (h:J9 W b A n):n≤9223372036854775807:=by
 by_cases hn:0<n
 ·
  obtain ⟨_,_,_,_,_,_,h⟩:=h hn
  exact h
 ·
  omega
theorem J9.low {W:World} {b a n:Nat} {A:Option Addr} (h:J9 W b A n) (ha:a≤b):J9 W a A n:=fun hn=>by
 obtain ⟨g,cur,e,hb,hg,hc⟩:=h hn
 exact ⟨g,cur,e,Nat.le_trans ha hb,hg,hc⟩
theorem J9.below {W W':World} {b n:Nat} {A:Option Addr} (h:J9 W b A n) (hb:Below W.heap.size W W'):J9 W' b A n:=fun hn=>by
 obtain ⟨g,cur,e,h1,hg,hc⟩:=h hn
 exact ⟨g,cur,e,h1,(hb.block g (Array.getElem?_eq_some_iff.1 hg).1).trans hg,hc⟩
theorem J9.keeps {W W':World} {b n:Nat} {A:Option Addr} (h:J9 W b A n) (hk:zu W W'):J9 W' b A n:=fun hn=>by
 obtain ⟨g,cur,e,h1,hg,hc⟩:=h hn
 exact ⟨g,cur,e,h1,hk g cur _ _ hg (by decide) (by decide) (by decide),hc⟩
theorem J9.store {W:World} {b n g k:Nat} {A:Option Addr} {cur:Array Value} (h:J9 W b A n) (hg:W.heap[g]? = some (.cells cur 9 (0,0))) (s:Value):J9 (W.setCell ⟨g,k,none⟩ s) b A n:=fun hn=>by
 obtain ⟨g',cur',e,h1,hg',hc⟩:=h hn
 by_cases eg:g'=g
 ·
  subst eg
  rw [hg] at hg'
  injection hg' with hg'
  injection hg' with hg'
  subst hg'
  exact ⟨g',_,e,h1,heap_setCell_same W g' k cur _ s hg,by simpa using hc.1,hc.2⟩
 ·
  exact ⟨g',cur',e,h1,(heap_setCell_other W ⟨g,k,none⟩ g' s eg).trans hg',hc⟩
theorem zo.setStr {w0 W:World} {D P M G g k:Nat} {A:zG} {L:zQ} {S:zw} {cur:Array Value} (h:zo w0 W D P M G A L S) (hg:W.heap[g]? = some (.cells cur 9 (0,0))) (hw:w0.heap.size≤g) (s:Value):zo w0 (W.setCell ⟨g,k,none⟩ s) D P M G A L S:=by
 obtain ⟨p,q,LM,pg,T,hd,hS,h2,h3⟩:=h
 have ht:zm (fun i=>i=g) W (W.setCell ⟨g,k,none⟩ s):=(zm.refl (fun i=>i=g) W).setCell (p:=⟨g,k,none⟩) (fun _=>rfl) _
 have hD:D≠g:=qv hd.blk hg (by decide)
 have hP:P≠g:=Zc hd.acc hg
 refine ⟨p,q,LM,pg,T,⟨?_,?_,?_,?_,hd.sep1,hd.sep2,hd.sep3⟩,hS,h2,h3.turn ht (fun i e=>by subst e; exact ⟨hw,id⟩)⟩
 ·
  exact (heap_setCell_other W ⟨g,k,none⟩ D s hD).trans hd.blk
 ·
  exact hd.acc.kept (heap_setCell_other W ⟨g,k,none⟩ P s hP)
 ·
  exact hd.idx.turnsF ht (fun i hi e=>by subst e; exact jm hd.idx hg (by decide) hi)
 ·
  exact hd.grp.turnsF ht (fun i hi e=>by subst e; exact jn hd.grp hg (by decide) hi)
theorem zo.base {w00 w0 W:World} {D P M G:Nat} {A:zG} {L:zQ} {S:zw} (h:zo w0 W D P M G A L S) (hb:Below w00.heap.size w00 w0):zo w00 W D P M G A L S:=by
 obtain ⟨p,q,LM,pg,T,hd,hS,h2,h3⟩:=h
 exact ⟨p,q,LM,pg,T,hd,hS,fun i hi=>⟨Nat.le_trans hb.size (h2 i hi).1,id⟩,z8 hb h3.1,h3.2⟩

/-! ### users in a row of one's own -/
def vq (l:List Us):List Value:=l.flatMap fun u=>u.cells.toList
theorem Yv (l:List Us) (i j:Nat) (hi:i<l.length) (hj:j<5):(vq l)[i * 5+j]? = l[i].cells[j]? := by
 induction l generalizing i with
 | nil=>exact absurd hi (Nat.not_lt_zero _)
 | cons u l ih =>
  have e:vq (u::l)=u.cells.toList++vq l:=rfl
  have h5:u.cells.toList.length=5:=rfl
  rw [e]
  cases i with
  | zero =>
   rw [List.getElem?_append_left (by omega),Nat.zero_mul,Nat.zero_add]
   simp
  | succ i =>
   rw [List.getElem?_append_right (by omega),h5,show (i+1) * 5+j - 5=i * 5+j by omega]
   exact ih i (by simpa using hi)
theorem fC (l:List Us) (u:Us):vq (l++[u])=vq l++u.cells.toList:=by
 unfold vq
 rw [List.flatMap_append]
 simp
theorem Qi {w:World} {b0 n c:Nat} {A:Option Addr} {l:List Us} (ho:w.ownsRow b0 37 5 (.slice A n c) n (vq l)) (hn:n=l.length):UT w A l:=by
 intro hl
 have hp:0<l.length:=List.length_pos_iff.2 hl
 obtain ⟨g,cap,hv,_,hg⟩:=ho.form (by omega)
 injection hv with hA _ hc
 subst hA hc
 refine ⟨g,0,rfl,hg,fun i hi j u hu=>?_⟩
 have h5:j<5:=by
  have:=(Array.getElem?_eq_some_iff.1 hu).1
  exact this
 have:=ho.cellAt (i * 5+j) (by omega)
 rw [Yv l i j hi h5,hu] at this
 rwa [Nat.zero_add]
structure Zz11 (w W:World) (D P M G:Nat) (A:zG) (L:zQ) (S:zw) (v:Value) (n:Nat) (l:List Us):Prop where
 own:zo w W D P M G A L S
 len:l.length=n
 row:W.ownsRow 0 37 5 v n (vq l)
 txt:∀ u∈l,J9 W w.heap.size u.ga u.gs.length
section
variable {w W:World} {D P M G:Nat} {A:zG} {L:zQ} {S:zw} {l:List Us}
theorem Zz11.later {W':World} {v:Value} {n:Nat} (h:Zz11 w W D P M G A L S v n l) (hb:Below W.heap.size W W'):Zz11 w W' D P M G A L S v n l :=
 ⟨h.own.later hb,h.len,zI h.row hb,fun u hu=>(h.txt u hu).below hb⟩
theorem Zz11.at_ {B:Option Addr} {n c i:Nat} (h:Zz11 w W D P M G A L S (.slice B n c) n l) (hi:i<l.length):∃ g,B=some ⟨g,0,none⟩∧W.cell? ⟨g,i * 5+4,none⟩=some (.slice l[i].ga l[i].gs.length l[i].gc):=by
 have hn:=h.len
 obtain ⟨g,cap,e,_,_⟩:=h.row.form (by omega)
 injection e with e1 e2 e3
 subst e1 e3
 refine ⟨g,rfl,?_⟩
 rw [h.row.cellAt (i * 5+4) (by omega),Yv l i 4 hi (by decide)]
 rfl
theorem Zz11.store {v:Value} {n i k:Nat} (h:Zz11 w W D P M G A L S v n l) (hi:i<l.length) (hk:k<l[i].gs.length) (s:ByteArray) :
  ∃ g,l[i].ga=some ⟨g,0,none⟩∧(∃ x,W.cell? ⟨g,k,none⟩=some x)∧W.frozen? ⟨g,k,none⟩=false∧Zz11 w (W.setCell ⟨g,k,none⟩ (.string s)) D P M G A L S v n l:=by
 obtain ⟨g,cur,e,h1,hg,hc,_⟩:=h.txt _ (List.getElem_mem hi) (by omega)
 refine ⟨g,e,?_,?_,h.own.setStr hg h1 _,h.len,?_,fun u hu=>(h.txt u hu).store hg _⟩
 ·
  rw [cell_of_row W g k cur _ (0,0) hg]
  exact ⟨_,Array.getElem?_eq_getElem (by omega)⟩
 ·
  exact frozen_of_row W g k cur _ hg
 ·
  have ht:zm (fun i=>i=g) W (W.setCell ⟨g,k,none⟩ (.string s)):=(zm.refl (fun i=>i=g) W).setCell (p:=⟨g,k,none⟩) (fun _=>rfl) _
  rcases h.row.2 with hz | ⟨g2,cap,cur2,e2,hb2,hg2,rest⟩
  ·
   exact ⟨h.row.1,.inl hz⟩
  ·
   exact ⟨h.row.1,.inr ⟨g2,cap,cur2,e2,hb2,(heap_setCell_other W ⟨g,k,none⟩ g2 _ (fun e=>by
    subst e
    rw [hg] at hg2
    injection hg2 with hg2
    injection hg2 with _ hg2
    exact absurd hg2 (by decide))).trans hg2,rest⟩⟩
end

theorem XZ {w:World} {b:Nat} {e size n:Nat} {v:Value} {xs:List Value} (h:w.ownsRow 0 e size v n xs) (hk:∀ k,v.ownBlock=some k→b≤k):w.ownsRow b e size v n xs:=by
 refine ⟨h.1,?_⟩
 rcases h.2 with hz | ⟨g,cap,cur,e1,_,rest⟩
 ·
  exact .inl hz
 ·
  exact .inr ⟨g,cap,cur,e1,hk g (by rw [e1]; rfl),rest⟩
def yw (u:Us):Us:={ u with ga:=none,gc:=0 }
theorem Qx:∀ l:List Us,xY (l.map yw)=xY l
 | []=>rfl
 | u::l=>by
  show (if uh 2 (yw u)=0 then xY (l.map yw) else uh 2 (yw u))=_
  rw [Qx l]
  rfl
theorem Vq (G:List ByteArray):∀ (l pre:List Us),xf G (pre.map yw) (l.map yw)=xf G pre l
 | [],_=>rfl
 | u::l,pre=>by
  have h1:xT G (pre.map yw) (yw u)=xT G pre u:=by
   unfold xT
   rw [List.any_map]
   rfl
  show (if xT G (pre.map yw) (yw u)=0 then xf G (pre.map yw++[yw u]) (l.map yw) else xT G (pre.map yw) (yw u))=_
  rw [h1,show pre.map yw++[yw u]=(pre++[u]).map yw by rw [List.map_append]; rfl,Vq G l]
  rfl
theorem fU (l:List Us) (G:List ByteArray):ue (l.map yw) G=ue l G:=by
 have h1:V2 (l.map yw)=V2 l:=by
  unfold V2
  rw [Qx,List.map_map,List.length_map]
  rfl
 unfold ue
 rw [h1]
 have h2:=Vq G l []
 rw [List.map_nil] at h2
 rw [h2]
theorem Ug (l:List Us):qD (l.map yw)=qD l:=by unfold qD; rw [List.map_map]; rfl

structure Cp11 (w W:World) (l:List Us) (k:Nat) (v:Value) (l2:List Us):Prop where
 bel:Below w.heap.size w W
 same:l2.map yw=(l.take k).map yw
 row:W.ownsRow w.heap.size 37 5 v k (vq l2)
 txt:∀ u∈l2,W.ownsRow w.heap.size 9 1 (.slice u.ga u.gs.length u.gc) u.gs.length (yb u.gs)
section
variable {w W W' wr w3 w5:World} {l l2:List Us} {k:Nat} {v v':Value}
theorem Cp11.later (h:Cp11 w W l k v l2) (hb:Below W.heap.size W W'):Cp11 w W' l k v l2 :=
 ⟨z8 h.bel hb,h.same,zI h.row hb,fun u hu=>zI (h.txt u hu) hb⟩
theorem keepS11 {b0 n:Nat} {e:TypeId} {xs ys:List Value} {u:Value} {a b c d x:Value} {B:Nat} {o:Obj} (hB:zY w3 B a b c d x) (hv:w3.ownsRow b0 37 5 v n xs) (y:Value) (hg:((w3.setCell ⟨B,4,none⟩ y).alloc o).grownBy w5 v.ownBlock) {m:Nat} (h:w3.ownsRow m 9 1 u e ys):w5.ownsRow m 9 1 u e ys:=by
 refine ⟨h.1,?_⟩
 rcases h.2 with hz | ⟨g,cap,cur,e1,h1,hgg,rest⟩
 ·
  exact .inl hz
 ·
  have hlt:g<w3.heap.size:=(Array.getElem?_eq_some_iff.1 hgg).1
  have n1:g≠B:=fun e=>by
   subst e
   have hB':w3.heap[g]? = _:=hB
   rw [hgg] at hB'
   injection hB' with hB'
   injection hB' with _ hB'
   exact absurd hB' (by decide)
  have n2:some g≠v.ownBlock:=fun e=>by
   rcases hv.2 with ⟨rfl,_⟩ | ⟨g2,cap2,cur2,rfl,_,hg2,_⟩
   ·
    simp [Value.ownBlock] at e
   ·
    simp [Value.ownBlock] at e
    subst e
    rw [hgg] at hg2
    injection hg2 with hg2
    injection hg2 with _ hg2
    exact absurd hg2 (by decide)
  refine .inr ⟨g,cap,cur,e1,h1,?_,rest⟩
  rw [hg.block g (by simp; omega) n2]
  have hs:((w3.setCell ⟨B,4,none⟩ y).alloc o).heap[g]? = (w3.setCell ⟨B,4,none⟩ y).heap[g]? := (z7 (Below.refl (w3.setCell ⟨B,4,none⟩ y).heap.size _) o).block g (by simpa using hlt)
  rw [hs,heap_setCell_other w3 ⟨B,4,none⟩ g y n1]
  exact hgg
theorem Cp11.next {a b c d e x:Value} {o:Obj} (h:Cp11 w wr l k v l2) (hb:Below wr.heap.size wr w3) (hB:zY w3 wr.heap.size a b c d e) (hg:((w3.setCell ⟨wr.heap.size,4,none⟩ x).alloc o).grownBy w5 v.ownBlock) (u:Us)
  (ho:w5.ownsRow w.heap.size 37 5 v' (k+1) (vq l2++u.cells.toList)) (ht:w3.ownsRow wr.heap.size 9 1 (.slice u.ga u.gs.length u.gc) u.gs.length (yb u.gs)) (hk:k<l.length) (hu:yw u=yw l[k]):Cp11 w w5 l (k+1) v' (l2++[u]):=by
 have hrow3:=zI h.row hb
 have hb3:=z8 h.bel hb
 have hsz:=h.bel.size
 refine ⟨?_,?_,by rw [fC]; exact ho,fun z hz=>?_⟩
 ·
  have h4:Below w.heap.size w (w3.setCell ⟨wr.heap.size,4,none⟩ x):=hb3.setCell (p:=⟨wr.heap.size,4,none⟩) hsz _
  exact (z8 h4 (z7 (Below.refl _ _) o)).grown hg (by have:=h4.size; simp at this ⊢; omega) (fun j hj=>(hrow3.lt j hj).1)
 ·
  rw [List.map_append,List.take_succ_eq_append_getElem hk,List.map_append,h.same]
  show _++[yw u]=_++[yw l[k]]
  rw [hu]
 ·
  rcases List.mem_append.1 hz with hz | hz
  ·
   exact keepS11 hB hrow3 x hg (zI (h.txt z hz) hb)
  ·
   rw [List.mem_singleton] at hz
   subst hz
   exact keepS11 hB hrow3 x hg (zA ht hsz)
theorem Cp11.all (h:Cp11 w W l l.length v l2) (ho:∀ u∈l,u.Ok w):l2.length=l.length∧(∀ u∈l2,u.Ok W)∧(∀ G,ue l2 G=ue l G)∧qD l2=qD l:=by
 have hs:=h.same
 rw [List.take_length] at hs
 have hlen:l2.length=l.length:=by have:=congrArg List.length hs; simpa using this
 refine ⟨hlen,fun u hu=>?_,fun G=>by rw [← fU l2,hs,fU],by rw [← Ug l2,hs,Ug]⟩
 have hm:yw u∈l.map yw:=by rw [← hs]; exact List.mem_map.2 ⟨u,hu,rfl⟩
 obtain ⟨z,hz,e⟩:=List.mem_map.1 hm
 have hz':=ho z hz
 have e1:z.nm=u.nm:=(congrArg Us.nm e:(yw z).nm=(yw u).nm)
 have e2:z.hs=u.hs:=(congrArg Us.hs e:(yw z).hs=(yw u).hs)
 have e3:z.ml=u.ml:=(congrArg Us.ml e:(yw z).ml=(yw u).ml)
 have e4:z.gs=u.gs:=(congrArg Us.gs e:(yw z).gs=(yw u).gs)
 have ht:=h.txt u hu
 have hform:(u.ga=none→u.gc=0)∧u.gs.length≤u.gc∧u.gc≤9223372036854775807:=by
  rcases ht.2 with ⟨q,q2⟩ | ⟨g,cap,cur,q,_,_,q3,q4,_⟩
  ·
   injection q with q0 _ q1
   exact ⟨fun _=>q1,by omega,by omega⟩
  ·
   injection q with q0 _ q1
   unfold maxLen at q4
   exact ⟨fun hn=>absurd (hn.symm.trans q0) (by simp),by omega,by omega⟩
 exact { rd:=Vs (zA ht (Nat.zero_le _)),nm:=e1 ▸ hz'.nm,hs:=e2 ▸ hz'.hs,ml:=e3 ▸ hz'.ml,nil:=hform.1,len:=hform.2.1,cap:=hform.2.2,all:=e4 ▸ hz'.all }
end

theorem failS_z12 (st:St):vJ st 0=st:=by unfold vJ; rw [if_pos (.inl rfl)]

theorem YI (st:St) (m l:Int):(Zo st m l).1.bs.length≤st.bs.length:=Nat.le_trans (Vn l _ _ _) (vk st m)

def fF (st:St):Us:=if (Xo 2 st).1.e=0 then (Xo 2 st).2 else zeroU
def xr:Nat→St→St×List Us
 | 0,st=>(st,[])
 | k+1,st=>((xr k (Xo 2 st).1).1,fF st::(xr k (Xo 2 st).1).2)
def uk (st:St):St:=if (vn st 1).2=2 then (vn st 1).1 else vJ (vn st 1).1 6
def vD (st:St):St×Nat:=if 12<(vn st 2).2 then (vJ (vn st 2).1 7,0) else vn st 2
def code12 (G:List ByteArray) (r:St×List Us):Int×List Us×List ByteArray :=
 if r.1.e≠0 then (r.1.e,[],[]) else if ue r.2 G≠0 then (ue r.2 G,[],[]) else if endS r.1≠0 then (endS r.1,[],[]) else (0,r.2,G)
def tail12 (g:St×List ByteArray):Int×List Us×List ByteArray:=code12 g.2 (xr (vD g.1).2 (vD g.1).1)
def FL (bs:List UInt8):Int×List Us×List ByteArray:=tail12 (Zo (uk ⟨bs,0⟩) 6 12)
def folB (l:List Us) (G:List ByteArray):List UInt8:=le 2 1++(jY G++(le l.length 2++l.flatMap (xW 2)))

theorem QN (st:St):(Xo 2 st).1.bs.length≤st.bs.length:=by
 rcases h1:yk st 65535 with ⟨s1,nm⟩
 rcases h2:yk s1 65535 with ⟨s2,hs⟩
 rcases h3:yk s2 65535 with ⟨s3,ml⟩
 rcases h4:vi s3 with ⟨s4,dis⟩
 rcases h5:Zo s4 65535 65535 with ⟨s5,gs⟩
 have e1:=yN st 65535
 have e2:=yN s1 65535
 have e3:=yN s2 65535
 have e4:=qW s3
 have e5:=YI s4 65535 65535
 rw [h1] at e1
 rw [h2] at e2
 rw [h3] at e3
 rw [h4] at e4
 rw [h5] at e5
 dsimp only at e1 e2 e3 e4 e5
 rw [Z1 h1 h2 h3 h4 h5]
 dsimp only
 have e6:=vl s5 (uh 2 (Jh nm hs ml dis gs))
 omega
theorem jU:∀ (k:Nat) (st:St),(xr k st).2.length=k
 | 0,_=>rfl
 | k+1,st=>by
  show (fF st::(xr k (Xo 2 st).1).2).length=_
  rw [List.length_cons,jU k]
theorem U7 (st:St):(uk st).bs.length≤st.bs.length:=by
 unfold uk
 split
 ·
  exact vX st 1
 ·
  exact Nat.le_trans (vl _ _) (vX st 1)
theorem J4 (st:St):(vD st).1.bs.length≤st.bs.length:=by
 unfold vD
 split
 ·
  exact Nat.le_trans (vl _ _) (vX st 2)
 ·
  exact vX st 2
theorem Fp (st:St):(vD st).2≤12:=by
 unfold vD
 split
 ·
  exact Nat.zero_le _
 ·
  omega

/-! ### What was read is what is written -/

/-! ### What is written is read -/
theorem F0 {u:Us} (h:uh 2 u=0) (r:List UInt8):(Xo 2 ⟨xW 2 u++r,0⟩).1=⟨r,0⟩∧fF ⟨xW 2 u++r,0⟩=yw u:=by
 obtain ⟨hl,_⟩:=fx h
 have n1:=hl.nm
 have n2:=hl.hs
 have n3:=hl.ml
 have n4:=hl.len
 have n5:=hl.all
 obtain ⟨nm,hs,ml,dis,ga,gs,gc⟩:=u
 dsimp only at n1 n2 n3 n4 n5
 have g1:yk ⟨xW 2 ⟨nm,hs,ml,dis,ga,gs,gc⟩++r,0⟩ 65535=(⟨yG hs++(yG ml++(le dis.toNat 1++(jY gs++r))),0⟩,nm.data.toList):=by
  have e:xW 2 ⟨nm,hs,ml,dis,ga,gs,gc⟩++r=yG nm++(yG hs++(yG ml++(le dis.toNat 1++(jY gs++r)))):=by
   show yG nm++yG hs++(yG ml++le dis.toNat 1++jY gs)++r=_
   simp only [List.append_assoc]
  rw [e]
  exact jC nm _ 65535 (by omega) (by omega)
 have g2:yk ⟨yG hs++(yG ml++(le dis.toNat 1++(jY gs++r))),0⟩ 65535=(⟨yG ml++(le dis.toNat 1++(jY gs++r)),0⟩,hs.data.toList):=jC hs _ 65535 (by omega) (by omega)
 have g3:yk ⟨yG ml++(le dis.toNat 1++(jY gs++r)),0⟩ 65535=(⟨le dis.toNat 1++(jY gs++r),0⟩,ml.data.toList):=jC ml _ 65535 (by omega) (by omega)
 have g4:vi ⟨le dis.toNat 1++(jY gs++r),0⟩=(⟨jY gs++r,0⟩,dis):=Jo dis _
 have g5:Zo ⟨jY gs++r,0⟩ 65535 65535=(⟨r,0⟩,gs):=Q9 gs r 65535 65535 (by omega) (by omega) (fun s hs=>by have:=n5 s hs; omega)
 have ew:Jh nm.data.toList hs.data.toList ml.data.toList dis gs=yw ⟨nm,hs,ml,dis,ga,gs,gc⟩:=by
  unfold Jh yw mk6
  rw [qM,qM,qM]
 have ec:uh 2 (Jh nm.data.toList hs.data.toList ml.data.toList dis gs)=0:=by rw [ew]; exact h
 have e0:Xo 2 ⟨xW 2 ⟨nm,hs,ml,dis,ga,gs,gc⟩++r,0⟩=(⟨r,0⟩,yw ⟨nm,hs,ml,dis,ga,gs,gc⟩):=by
  rw [Z1 g1 g2 g3 g4 g5,ec,failS_z12,ew]
 refine ⟨by rw [e0],?_⟩
 unfold fF
 rw [e0,if_pos rfl]
theorem Yt:∀ (l:List Us) (r:List UInt8),(∀ u∈l,uh 2 u=0)→xr l.length ⟨l.flatMap (xW 2)++r,0⟩=(⟨r,0⟩,l.map yw)
 | [],r,_=>rfl
 | u::l,r,h=>by
  obtain ⟨h1,h2⟩:=F0 (h u (List.mem_cons_self ..)) (l.flatMap (xW 2)++r)
  have e:(u::l).flatMap (xW 2)++r=xW 2 u++(l.flatMap (xW 2)++r):=by rw [List.flatMap_cons,List.append_assoc]
  rw [e,List.length_cons,xr,h1,h2,Yt l r (fun x hx=>h x (List.mem_cons_of_mem _ hx))]
  rfl
structure May12 (l:List Us) (G:List ByteArray):Prop where
 of:ue l G=0
 all:∀ u∈l,uh 2 u=0
 few:l.length≤12
 names:yz G=true
 rise:yv G=true
 gfew:G.length≤6
theorem may12 {l:List Us} {G:List ByteArray} (h:ue l G=0):May12 l G:=by
 have hc:cE11 l G=0:=by
  by_cases hc:cE11 l G=0
  ·
   exact hc
  ·
   have:=(cE_of (l:=l) (G:=G)).1 hc
   rw [h] at this
   exact absurd this.symm hc
 obtain ⟨h1,_,h3,h4,h5,h6⟩:=UR hc
 exact ⟨h,h1,h3,h4,h5,h6⟩
theorem May12.sizes {l:List Us} {G:List ByteArray} (h:May12 l G):∀ g∈G,g.size≤12:=fun g hg=>jH (by
 have:=List.all_eq_true.1 h.names g hg
 exact this)
theorem read12_put {l:List Us} {G:List ByteArray} (h:ue l G=0):FL (folB l G)=(0,l.map yw,G):=by
 have m:=may12 h
 have hsz:=m.sizes
 have hg6:=m.gfew
 have hl12:=m.few
 have e0:uk ⟨folB l G,0⟩=⟨jY G++(le l.length 2++(l.flatMap (xW 2)++[])),0⟩:=by
  have hn:vn ⟨le 2 1++(jY G++(le l.length 2++(l.flatMap (xW 2)++[]))),0⟩ 1=(⟨jY G++(le l.length 2++(l.flatMap (xW 2)++[])),0⟩,2):=by
   rw [fW]
  have e9:folB l G=le 2 1++(jY G++(le l.length 2++(l.flatMap (xW 2)++[]))):=by unfold folB; rw [List.append_nil]
  unfold uk
  rw [e9,hn,if_pos rfl]
 have e1:Zo ⟨jY G++(le l.length 2++(l.flatMap (xW 2)++[])),0⟩ 6 12=(⟨le l.length 2++(l.flatMap (xW 2)++[]),0⟩,G):=Q9 G _ 6 12 (by omega) (by omega) (fun s hs=>by have:=hsz s hs; omega)
 have e2:vD ⟨le l.length 2++(l.flatMap (xW 2)++[]),0⟩=(⟨l.flatMap (xW 2)++[],0⟩,l.length):=by
  have hn:vn ⟨le l.length 2++(l.flatMap (xW 2)++[]),0⟩ 2=(⟨l.flatMap (xW 2)++[],0⟩,l.length):=by
   rw [fW,Nat.mod_eq_of_lt (by omega)]
  unfold vD
  rw [hn,if_neg (by dsimp only; omega)]
 unfold FL tail12
 rw [e0,e1]
 dsimp only
 rw [e2]
 dsimp only
 rw [Yt l [] m.all]
 unfold code12
 dsimp only
 rw [if_neg (by simp),if_neg (by rw [fU,h]; simp),if_neg (by simp [endS])]
theorem folB_nrm12 (l:List Us) (G:List ByteArray):folB (l.map yw) G=folB l G:=by
 unfold folB
 rw [List.length_map,List.flatMap_map]
 rfl

/-! ### How long -/
theorem vr {n:Nat}:∀ {ss:List ByteArray},(∀ s∈ss,s.size≤n)→(yC ss).length≤(n+2) * ss.length
 | [],_=>by simp [yC]
 | s::ss,h=>by
  have h1:=h s (List.mem_cons_self ..)
  have h2:=vr (n:=n) (ss:=ss) (fun x hx=>h x (List.mem_cons_of_mem _ hx))
  show (yG s++yC ss).length≤_
  rw [List.length_append,uQ,List.length_cons,Nat.mul_succ]
  omega
theorem XM {u:Us} (h:uh 2 u=0):(xW 2 u).length≤137:=by
 obtain ⟨hl,_⟩:=fx h
 have h1:=hl.nm
 have h2:=hl.hs
 have h3:=hl.ml
 have h4:=vr hl.all
 have h5:=hl.len
 show (yG u.nm++yG u.hs++(yG u.ml++le u.dis.toNat 1++(le u.gs.length 2++yC u.gs))).length≤137
 simp only [List.length_append,uQ,yV]
 omega
theorem ux:∀ {l:List Us},(∀ u∈l,uh 2 u=0)→(l.flatMap (xW 2)).length≤137 * l.length
 | [],_=>Nat.le_refl _
 | q::l,h=>by
  have h1:=XM (h q (List.mem_cons_self ..))
  have h2:=ux (l:=l) (fun x hx=>h x (List.mem_cons_of_mem _ hx))
  rw [List.flatMap_cons,List.length_append,List.length_cons]
  omega
theorem folB_length {l:List Us} {G:List ByteArray} (h:May12 l G):(folB l G).length≤1733:=by
 have h1:=ux h.all
 have h2:=vr h.sizes
 have h3:=h.few
 have h4:=h.gfew
 unfold folB jY
 simp only [List.length_append,yV]
 omega

/-! ### The document's way -/

/-! ### A directory's rows -/
def vh (p:List UInt8×U11):Us:=⟨zF p.1,zF p.2.hs,zF p.2.ml,p.2.dis,none,p.2.gs.map zF,0⟩
theorem Fv (N:List (List UInt8)):uu (N.map zF)=N:=by
 unfold uu
 rw [List.map_map]
 conv=>rhs; rw [← List.map_id N]
 exact List.map_congr_left fun x _=>zv x
theorem tx_bl12 (G:List ByteArray):(uu G).map zF=G:=by
 unfold uu
 rw [List.map_map]
 conv=>rhs; rw [← List.map_id G]
 exact List.map_congr_left fun x _=>yO x
theorem plU_usOf12 (T:yi):qD (T.map vh)=T:=by
 unfold qD
 rw [List.map_map]
 conv=>rhs; rw [← List.map_id T]
 refine List.map_congr_left fun p _=>?_
 show ((zF p.1).data.toList,(⟨(zF p.2.hs).data.toList,(zF p.2.ml).data.toList,p.2.dis,uu (p.2.gs.map zF)⟩:U11))=p
 rw [zv,zv,zv,Fv]
theorem usOf_plU12 (l:List Us):(qD l).map vh=l.map yw:=by
 unfold qD
 rw [List.map_map]
 refine List.map_congr_left fun u _=>?_
 show (⟨zF u.nm.data.toList,zF u.hs.data.toList,zF u.ml.data.toList,u.dis,none,(uu u.gs).map zF,0⟩:Us)=yw u
 rw [yO,yO,yO,tx_bl12]
 rfl
def folT12 (T:yi) (N:List (List UInt8)):List UInt8:=folB (T.map vh) (N.map zF)
theorem Vp:∀ {ss:List ByteArray},(ss.Pairwise fun a b=>bytesBefore a.data.toList b.data.toList=true)→yv ss=true
 | [],_=>rfl
 | [_],_=>rfl
 | a::b::r,h=>by
  obtain ⟨h1,h2⟩:=List.pairwise_cons.1 h
  unfold yv
  rw [Vp h2,Bool.and_true]
  unfold xU
  rw [qw]
  exact h1 b (List.mem_cons_self ..)
theorem Zq {N:List (List UInt8)} (h:uo N):yv (N.map zF)=true:=by
 refine Vp (List.pairwise_map.2 (List.Pairwise.imp (fun {a b} hab=>?_) h))
 rw [zv,zv]
 exact hab
theorem X3 {N:List (List UInt8)} (h:∀ n∈N,zf n=true):yz (N.map zF)=true:=by
 unfold yz
 rw [List.all_eq_true]
 intro g hg
 obtain ⟨n,hn,rfl⟩:=List.mem_map.1 hg
 rw [zv]
 exact h n hn
section
variable {A:zG} {L:zQ} {S:zw} {k:Nat}
theorem JY (h:zt A L S k) (n:List UInt8):fq (zF (xF L n))=true:=by
 unfold fq
 rw [Bool.or_eq_true,Bool.and_eq_true,decide_eq_true_eq,decide_eq_true_eq,zv,xz]
 cases hh:xG L n with
 | false=>exact .inl (by rw [yW hh]; rfl)
 | true =>
  obtain ⟨_,h2,h3⟩:=h.all _ (xQ hh)
  refine .inr ⟨h2,?_⟩
  unfold uX
  rw [if_pos h2]
  show zF (zL (xF L n))=_
  rw [h3]
theorem good_chk12 (h:zt A L S k) (p:List UInt8×(List UInt8×Bool)) (hp:p∈A):uh 2 (vh (p.1,xN L S p.1 p.2))=0:=by
 obtain ⟨h1,h2⟩:=h.nm p hp
 have h3:=JY h p.1
 have h4:((yX S p.1).map zF).length≤6:=by rw [List.length_map]; exact Nat.le_trans (X0 S p.1) h.grp.few
 have h5:yz ((yX S p.1).map zF)=true:=X3 fun g hg=>by
  obtain ⟨q,hq,rfl⟩:=List.mem_map.1 (fV hg)
  exact h.grp.named q hq
 have h6:yv ((yX S p.1).map zF)=true:=Zq (xJ h.grp.rise p.1)
 unfold uh
 dsimp only
 rw [if_neg (by decide)]
 show zR [zR [zq (X7 2) 6,zq (zf (zF p.1).data.toList) 10,zq (yK (zF p.2.1).data.toList) 4],zq (fq (zF (xF L p.1))) 11,zq (decide (((yX S p.1).map zF).length≤6)) 7,zq (yz ((yX S p.1).map zF)) 10,zq (yv ((yX S p.1).map zF)) 9]=0
 rw [zv,zv,h1,h2,h3,h5,h6,decide_eq_true h4]
 rfl
theorem fE (A:zG) (L:zQ) (S:zw):(ze A L S).map vh=A.map fun p=>vh (p.1,xN L S p.1 p.2):=by
 unfold ze
 rw [List.map_map]
 rfl
theorem VA:∀ {l:List Us},(∀ u∈l,uh 2 u=0)→xY l=0
 | [],_=>rfl
 | u::l,h=>by
  unfold xY
  rw [if_pos (h u (List.mem_cons_self ..))]
  exact VA fun x hx=>h x (List.mem_cons_of_mem _ hx)
theorem YQ (G:List ByteArray):∀ (l pre:List Us),(∀ u∈l,u.gs.all (fun g=>vo (uu G) g.data.toList)=true)→(pre++l).Pairwise (fun u v=>u.ml.data.toList≠[]→v.ml.data.toList≠u.ml.data.toList)→xf G pre l=0
 | [],_,_,_=>rfl
 | u::l,pre,h1,h2=>by
  obtain ⟨_,_,p3⟩:=List.pairwise_append.1 h2
  have h0:xT G pre u=0:=by
   unfold xT
   rw [if_pos (h1 u (List.mem_cons_self ..)),if_neg]
   rw [Bool.not_eq_true,List.any_eq_false]
   intro v hv hc
   rw [Bool.and_eq_true,Bool.not_eq_true',beq_eq_false_iff_ne,beq_iff_eq] at hc
   exact p3 v hv u (List.mem_cons_self ..) (by rw [← hc.2]; exact hc.1) hc.2
  show (if xT G pre u=0 then xf G (pre++[u]) l else xT G pre u)=0
  rw [if_pos h0]
  exact YQ G l (pre++[u]) (fun x hx=>h1 x (List.mem_cons_of_mem _ hx)) (by rw [List.append_assoc]; exact h2)
theorem QL (h:zt A L S k):ue ((ze A L S).map vh) ((zb S).map zF)=0:=by
 have h1:xY ((ze A L S).map vh)=0:=VA fun u hu=>by
  rw [fE] at hu
  obtain ⟨p,hp,rfl⟩:=List.mem_map.1 hu
  exact good_chk12 h p hp
 have h2:yv (((ze A L S).map vh).map (·.nm))=true:=by
  have e:((ze A L S).map vh).map (·.nm)=(zb A).map zF:=by
   rw [fE,List.map_map]
   unfold zb
   rw [List.map_map]
   rfl
  rw [e]
  exact Zq (zB.names h.rise)
 have h3:((ze A L S).map vh).length≤12:=by rw [List.length_map,ui]; exact h.few
 have h4:yz ((zb S).map zF)=true:=X3 fun n hn=>by
  obtain ⟨q,hq,rfl⟩:=List.mem_map.1 hn
  exact h.grp.named q hq
 have h5:yv ((zb S).map zF)=true:=Zq (zB.names h.grp.rise)
 have h6:((zb S).map zF).length≤6:=by
  rw [List.length_map]
  unfold zb
  rw [List.length_map]
  exact h.grp.few
 have h7:xf ((zb S).map zF) [] ((ze A L S).map vh)=0:=by
  refine YQ _ _ _ (fun u hu=>?_) ?_
  ·
   rw [fE] at hu
   obtain ⟨p,hp,rfl⟩:=List.mem_map.1 hu
   rw [List.all_eq_true]
   intro g hg
   obtain ⟨x,hx,rfl⟩:=List.mem_map.1 (show g∈(yX S p.1).map zF from hg)
   rw [Fv,zv,vc]
   exact fV hx
  ·
   rw [List.nil_append,fE]
   refine List.pairwise_map.2 (List.Pairwise.imp (fun {p q} hpq=>?_) h.rise)
   show (zF (xF L p.1)).data.toList≠[]→(zF (xF L q.1)).data.toList≠(zF (xF L p.1)).data.toList
   rw [zv,zv]
   intro hne he
   obtain ⟨M,hM⟩:=h.mir
   have hp:xG L p.1=true:=by
    cases hh:xG L p.1 with
    | true=>rfl
    | false=>exact absurd (yW hh) hne
   have hq:xG L q.1=true:=by
    cases hh:xG L q.1 with
    | true=>rfl
    | false=>exact absurd (he ▸ yW hh) hne
   have m1:=(hM.iff _ _).1 (xQ hp)
   have m2:=(hM.iff _ _).1 (xQ hq)
   rw [he] at m2
   have e:=Ud hM.rm m1 m2
   rw [e] at hpq
   rw [zC] at hpq
   cases hpq
 unfold ue V2
 rw [h1,h2,decide_eq_true (show ((((ze A L S).map vh).length:Nat):Int)≤12 by omega),h4,h5,if_pos h6,h7]
 rfl
end
end Go.Proofs.YtmcomnocpibiiaaGreatDoor
namespace Go.Proofs.YtmcomnocpibiiaaGreatDoor
open Go.RowKit Go.Maps Go.Sort Go.Shelf

/-! ### One user of any bytes -/
theorem Fa (B:Nat) (st:St) (w:World) (h:Rdr w B st) (hl:st.bs.length≤100000) (hm:ud w) (hBg:B≠0) :
    Calls Tryz.prog 169 #[.pointer (some ⟨B,0,none⟩),.int .i64 2] w (Got6 w B (Xo 2 st).1 (Xo 2 st).2):=by
  have l1:=yN st 65535
  have f1:=vN st 65535
  rcases h1:yk st 65535 with ⟨s1,nm⟩
  rw [h1] at l1 f1
  have l2:=yN s1 65535
  have f2:=vN s1 65535
  rcases h2:yk s1 65535 with ⟨s2,hs⟩
  rw [h2] at l2 f2
  have l3:=yN s2 65535
  have f3:=vN s2 65535
  rcases h3:yk s2 65535 with ⟨s3,ml⟩
  rw [h3] at l3 f3
  have l4:=qW s3
  rcases h4:vi s3 with ⟨s4,dis⟩
  rw [h4] at l4
  have f5:=fk s4 65535 65535
  rcases h5:Zo s4 65535 65535 with ⟨s5,gs⟩
  rw [h5] at f5
  dsimp only at l1 l2 l3 l4 f1 f2 f3 f5
  rw [Z1 h1 h2 h3 h4 h5]
  exact get6_two B st w h (by omega) hm hBg _ _ _ _ _ _ _ _ _ _ _ h1 h2 h3 h4 h5 rfl (by omega) (by omega) (by omega) (by omega) (by omega) (by omega) (by omega) (fun s hs=>by have:=f5 s hs; omega)
structure Us.Wide (u:Us):Prop where
  nm:u.nm.size≤100000
  hs:u.hs.size≤100000
  ml:u.ml.size≤100000
  all:∀ s∈u.gs,s.size≤100000
theorem JZ (st:St) (hl:st.bs.length≤100000):(Xo 2 st).2.Wide:=by
  have l1:=yN st 65535
  have f1:=vN st 65535
  rcases h1:yk st 65535 with ⟨s1,nm⟩
  rw [h1] at l1 f1
  have l2:=yN s1 65535
  have f2:=vN s1 65535
  rcases h2:yk s1 65535 with ⟨s2,hs⟩
  rw [h2] at l2 f2
  have l3:=yN s2 65535
  have f3:=vN s2 65535
  rcases h3:yk s2 65535 with ⟨s3,ml⟩
  rw [h3] at l3 f3
  have l4:=qW s3
  rcases h4:vi s3 with ⟨s4,dis⟩
  rw [h4] at l4
  have f5:=fk s4 65535 65535
  rcases h5:Zo s4 65535 65535 with ⟨s5,gs⟩
  rw [h5] at f5
  dsimp only at l1 l2 l3 l4 f1 f2 f3 f5
  rw [← FW] at f1 f2 f3
  rw [Z1 h1 h2 h3 h4 h5]
  exact ⟨by show (mk6 nm).size≤_; omega,by show (mk6 hs).size≤_; omega,by show (mk6 ml).size≤_; omega,fun s hs=>by have:=f5 s hs; omega⟩
theorem QO (st:St):yw (Xo 2 st).2=(Xo 2 st).2:=by
  rcases h1:yk st 65535 with ⟨s1,nm⟩
  rcases h2:yk s1 65535 with ⟨s2,hs⟩
  rcases h3:yk s2 65535 with ⟨s3,ml⟩
  rcases h4:vi s3 with ⟨s4,dis⟩
  rcases h5:Zo s4 65535 65535 with ⟨s5,gs⟩
  rw [Z1 h1 h2 h3 h4 h5]
  rfl
def Got12 (w:World) (B:Nat) (st:St) (e:Ending) (w':World):Prop :=
  ∃ u:Us,e=.returned u.v∧yw u=fF st∧u.Wide∧w'.ownsRow w.heap.size 9 1 (.slice u.ga u.gs.length u.gc) u.gs.length (yb u.gs)∧Did w B (Xo 2 st).1 w'
theorem ZS {w:World} {b e size n:Nat} {v:Value} {xs:List Value} (h:w.ownsRow 0 e size v n xs) (hk:∀ k,v.ownBlock=some k→b≤k):w.ownsRow b e size v n xs:=XZ h hk
theorem Fb (B:Nat) (st:St) (w:World) (h:Rdr w B st) (hl:st.bs.length≤100000) (hm:ud w) (hBg:B≠0) :
    Calls Tryz.prog 169 #[.pointer (some ⟨B,0,none⟩),.int .i64 2] w (Got12 w B st):=by
  have h6:=Fa B st w h hl hm hBg
  have hw:=JZ st hl
  have hb:=QO st
  have ht:fF st=if (Xo 2 st).1.e=0 then (Xo 2 st).2 else zeroU:=rfl
  unfold Got12
  rw [ht]
  clear ht
  generalize Xo 2 st=q at *
  obtain ⟨s1,u⟩:=q
  dsimp only at *
  refine h6.mono fun e w' ⟨A,c,he,ho,hn,hd⟩=>?_
  by_cases h0:s1.e=0
  · rw [if_pos h0] at he ⊢
    exact ⟨{ u with ga:=A,gc:=c },he,hb,⟨hw.nm,hw.hs,hw.ml,hw.all⟩,ZS ho hn,hd⟩
  · rw [if_neg h0] at he ⊢
    exact ⟨zeroU,he,rfl,⟨Nat.zero_le _,Nat.zero_le _,Nat.zero_le _,fun s hs=>by cases hs⟩,World.ownsRow_nil _ _ _ _,hd⟩

theorem YJ (long:Int):∀ (k:Nat) (st:St) (acc:List ByteArray),(rowGo long k st acc).2.length≤acc.length+k
  | 0,st,acc=>Nat.le_refl _
  | k+1,st,acc=>by
    unfold rowGo
    split
    · exact Nat.zero_le _
    · have:=YJ long k (yk st long).1 (acc++[⟨(yk st long).2.toArray⟩])
      rw [List.length_append] at this
      simp only [List.length_cons,List.length_nil] at this
      omega
theorem row_few12 (st:St) (m l:Int) (hm:m≤1000):(Zo st m l).2.length≤1000:=by
  unfold Zo
  have h1:=YJ l (yx st m).2 (yx st m).1 []
  have h2:(yx st m).2≤1000:=by
    unfold yx
    split
    · exact Nat.zero_le _
    · dsimp only
      omega
  have h3:([]:List ByteArray).length=0:=rfl
  omega

/-! ### Part by part -/
set_option maxRecDepth 100000 in
theorem YF (B:Nat) (st:St) (w:World) (h:Rdr w B st) (hl:st.bs.length≤100000) :
    Calls Tryz.prog 101 #[.pointer (some ⟨B,0,none⟩)] w (Void w B (uk st)):=by
  have HN:=za (YV B st w h (by omega))
  obtain ⟨s0,hs0⟩:∃ s0,s0=uk st:=⟨_,rfl⟩
  have HS:Hid (s0=if (vn st 1).2=2 then (vn st 1).1 else vJ (vn st 1).1 6):=hs0
  rw [← hs0]
  clear hs0 h hl
  generalize (vn st 1).2=x at *
  generalize (vn st 1).1=s1 at *
  go_enter Tryz.func101,Tryz.ntmps101
  go_wp2_with fail
  with_reducible refine HN.out.mono ?_
  rintro e w1 ⟨rfl,hd⟩
  have HD:=za hd
  clear hd HN
  by_cases hx:x=2
  · have hs:=HS.out
    rw [if_pos hx] at hs
    subst hx
    subst hs
    clear HS
    go_wp2
    go_end0
    exact ⟨rfl,HD.out⟩
  · have hs:=HS.out
    rw [if_neg hx] at hs
    have hz:((x:Int) != 2)=true:=by simp; omega
    have HF:=za (ut B s1 6 w1 HD.out.rdr)
    rw [← hs] at HF
    clear hs HS
    go_wp2_with fail
    with_reducible refine HF.out.mono ?_
    rintro e w2 ⟨rfl,hd2⟩
    have HD2:=za (HD.out.next hd2)
    clear hd2 HF HD
    go_wp2
    go_end0
    exact ⟨rfl,HD2.out⟩

set_option maxRecDepth 100000 in
theorem XW (B:Nat) (st:St) (w:World) (h:Rdr w B st) (hl:st.bs.length≤100000) :
    Calls Tryz.prog 104 #[.pointer (some ⟨B,0,none⟩)] w fun e w'=>e=.returned (.int .i64 (vD st).2)∧Did w B (vD st).1 w':=by
  have HN:=za (Vl B st w h (by omega))
  have hx2:(vn st 2).2<65536:=Zv st 2
  obtain ⟨c,hc⟩:∃ c,c=vD st:=⟨_,rfl⟩
  have HS:Hid (c=if 12<(vn st 2).2 then (vJ (vn st 2).1 7,0) else ((vn st 2).1,(vn st 2).2)):=hc
  rw [← hc]
  clear hc h hl
  generalize (vn st 2).2=x at *
  generalize (vn st 2).1=s1 at *
  obtain ⟨s2,n⟩:=c
  go_enter Tryz.func104,Tryz.ntmps104
  go_wp2_with fail
  with_reducible refine HN.out.mono ?_
  rintro e w1 ⟨rfl,hd⟩
  have HD:=za hd
  clear hd HN
  by_cases hx:12<x
  · have hs:=HS.out
    rw [if_pos hx] at hs
    have hz:(x:Int) > 12:=by omega
    obtain ⟨h1,h2⟩:=Prod.mk.inj hs
    have HF:=za (ut B s1 7 w1 HD.out.rdr)
    rw [← h1] at HF
    subst h2
    clear hs HS h1
    go_wp2_with fail
    with_reducible refine HF.out.mono ?_
    rintro e w2 ⟨rfl,hd2⟩
    have HD2:=za (HD.out.next hd2)
    clear hd2 HF HD
    go_wp2
    go_ret
    exact ⟨rfl,HD2.out⟩
  · have hs:=HS.out
    rw [if_neg hx] at hs
    have hz:¬ (x:Int) > 12:=by omega
    obtain ⟨h1,h2⟩:=Prod.mk.inj hs
    subst h1
    subst h2
    clear hs HS
    go_wp2
    go_ret
    exact ⟨rfl,HD.out⟩

theorem Zi {w:World} {B b0:Nat} {st:St} {v:Value} {n:Nat} {xs:List Value} (hr:Rdr w B st) (h:w.ownsRow b0 37 5 v n xs):v.ownBlock≠some B:=by
  obtain ⟨u,hb,_⟩:=hr
  rcases h.2 with ⟨rfl,_⟩ | ⟨g,cap,cur,rfl,_,hg,_⟩
  · simp [Value.ownBlock]
  · intro he
    have:g=B:=by simpa [Value.ownBlock] using he
    subst this
    have:=hb.symm.trans hg
    simp at this
theorem Rdr.beside12 {w w':World} {B b0:Nat} {st:St} {v:Value} {n:Nat} {xs:List Value} (hr:Rdr w B st) (ho:w.ownsRow b0 37 5 v n xs) (ht:zm (fun i=>v.ownBlock=some i) w w'):Rdr w' B st:=by
  have hne:=Zi hr ho
  have hB:=hr.lt
  obtain ⟨u,hu,hru⟩:=hr
  refine ⟨u,(ht.block B hB hne).trans hu,?_⟩
  rcases hru with h0 | ⟨g,off,cc,rfl,h1,h2,h3,h4,hbk,h5⟩
  · exact .inl h0
  · have hgn:v.ownBlock≠some g:=by
      obtain ⟨cur,fr,hcur⟩:=hbk
      intro he
      rcases ho.2 with ⟨hv,_⟩ | ⟨g',cap',cur',hv,_,hg',_⟩
      · rw [hv] at he; simp [Value.ownBlock] at he
      · rw [hv] at he
        have:g'=g:=by simpa [Value.ownBlock] using he
        subst this
        have:=hcur.symm.trans hg'
        simp at this
    exact .inr ⟨g,off,cc,rfl,h1,h2,Nat.lt_of_lt_of_le h3 ht.size,h4,hbk.keep ht hgn,fun j hj=>(ht.cell (p:=⟨g,off+j,none⟩) h3 hgn).trans (h5 j hj)⟩
theorem jW {w w':World} {b b0:Nat} {v u:Value} {n m:Nat} {xs ys:List Value} (h:w.ownsRow b 9 1 u m ys) (ho:w.ownsRow b0 37 5 v n xs) (ht:zm (fun i=>v.ownBlock=some i) w w'):w'.ownsRow b 9 1 u m ys:=by
  refine ⟨h.1,?_⟩
  rcases h.2 with h0 | ⟨g,cap,cur,rfl,hb,hg,rest⟩
  · exact .inl h0
  · refine .inr ⟨g,cap,cur,rfl,hb,(ht.block g (Array.getElem?_eq_some_iff.1 hg).1 fun he=>?_).trans hg,rest⟩
    rcases ho.2 with ⟨hv,_⟩ | ⟨g',cap',cur',hv,_,hg',_⟩
    · rw [hv] at he; simp [Value.ownBlock] at he
    · rw [hv] at he
      have:g'=g:=by simpa [Value.ownBlock] using he
      subst this
      have:=hg'.symm.trans hg
      simp at this

structure Jf (b:Nat) (w:World) (v:Value) (n:Nat) (l l2:List Us):Prop where
  same:l2.map yw=l
  row:w.ownsRow b 37 5 v n (vq l2)
  wide:∀ u∈l2,u.Wide
  txt:∀ u∈l2,w.ownsRow b 9 1 (.slice u.ga u.gs.length u.gc) u.gs.length (yb u.gs)
theorem Jf.turns {S:Nat→Prop} {b n:Nat} {w w':World} {v:Value} {l l2:List Us} (h:Jf b w v n l l2) (ht:zm S w w') (hS:∀ k,b≤k→¬ S k):Jf b w' v n l l2 :=
  ⟨h.same,jF h.row (Nat.le_refl _) ht hS,h.wide,fun u hu=>jF (h.txt u hu) (Nat.le_refl _) ht hS⟩
theorem Jf.ok {b n:Nat} {w:World} {v:Value} {l l2:List Us} (h:Jf b w v n l l2):∀ u∈l2,u.Ok w:=fun u hu=>by
  obtain ⟨f1,f2,f3,f4⟩:=qE (h.txt u hu) rfl
  have hw:=h.wide u hu
  exact ⟨f1,Nat.le_trans hw.nm (by omega),Nat.le_trans hw.hs (by omega),Nat.le_trans hw.ml (by omega),f2,f3,f4,fun s hs=>Nat.le_trans (hw.all s hs) (by omega)⟩
def FC (w:World) (B:Nat) (n:Nat) (st:St) (l:List Us) (e:Ending) (w':World):Prop :=
  ∃ v l2,e=.returned v∧Jf w.heap.size w' v n l l2∧Did w B st w'

set_option maxRecDepth 100000 in
theorem XQ (B n:Nat) (st:St) (w:World) (h:Rdr w B st) (hl:st.bs.length≤100000) (hn:n≤12) (hm:ud w) (hBg:B≠0) :
    Calls Tryz.prog 103 #[.pointer (some ⟨B,0,none⟩),.int .i64 n] w (FC w B n (xr n st).1 (xr n st).2):=by
  obtain ⟨i0,hi,hz0,hz1,hz2⟩:=info_parts ur
  have hB:=h.lt
  have HR:=za (Did.refl h)
  have HM:Hid (∀ W s,Did w B s W→ud W):=fun W s hd=>by
    obtain ⟨hlt,m,hcm⟩:=hm
    exact ⟨Nat.lt_of_lt_of_le hlt hd.2.size,m,(hd.2.cell (p:=⟨0,0,none⟩) hlt (fun e=>hBg e.symm)).trans hcm⟩
  have HBG:=za hBg
  obtain ⟨us,hus⟩:∃ us,us=xr n st:=⟨_,rfl⟩
  rw [← hus]
  have HUS:Hid (∃ acc:List Us,acc.length=0∧st.bs.length≤100000∧us=((xr (n - 0) st).1,acc++(xr (n - 0) st).2)):=⟨[],rfl,hl,hus⟩
  clear hus h hl hm hBg
  go_enter Tryz.func103,Tryz.ntmps103
  go_wp2
  go_loopg [5,7] n (fun gg s5 s7 wr=>∃ (k:Nat) (acc l2:List Us) (s1:St),k≤n∧n - k≤gg∧s7=.int .i64 k∧Hid (acc.length=k∧s1.bs.length≤100000∧us=((xr (n - k) s1).1,acc++(xr (n - k) s1).2))∧Hid (Did w B s1 wr)∧Hid (Jf w.heap.size wr s5 k acc l2))
  case atStart =>
    obtain ⟨acc,h0,h1,h2⟩:=HUS.out
    have:acc=[]:=List.eq_nil_of_length_eq_zero h0
    subst this
    exact ⟨0,[],[],st,Nat.zero_le _,by omega,rfl,⟨rfl,h1,h2⟩,HR.out,rfl,World.ownsRow_nil _ _ _ _,(fun _ h=>nomatch h),(fun _ h=>nomatch h)⟩
  case round =>
    clear HUS HR
    obtain ⟨k,acc,l2,s1,hk,hg,rfl,HAC,HD,HO⟩:=hrel
    by_cases hlt:k<n
    · have hltz:(k:Int)<(n:Int):=by omega
      have hac:=HAC.out
      rw [show n - k=(n - (k+1))+1 by omega] at hac
      have HAC2:Hid ((acc++[fF s1]).length=k+1∧(Xo 2 s1).1.bs.length≤100000∧us=((xr (n - (k+1)) (Xo 2 s1).1).1,(acc++[fF s1])++(xr (n - (k+1)) (Xo 2 s1).1).2)) :=
        ⟨by rw [List.length_append,hac.1]; rfl,Nat.le_trans (QN s1) hac.2.1,by rw [List.append_assoc]; exact hac.2.2⟩
      have HG:=za (Fb B s1 wr HD.out.1 hac.2.1 (HM.out wr s1 HD.out) HBG.out)
      clear hac HAC
      go_wp2_with fail
      with_reducible refine HG.out.mono ?_
      rintro e w2 ⟨u,rfl,hnu,hwu,htu,hd⟩
      have HD2:=za (HD.out.next hd)
      have HO2:Hid (Jf w.heap.size w2 u5 k acc l2):=HO.out.turns hd.2 (fun j hj he=>by have he':j=B:=he; omega)
      have hszw:=HD.out.2.size
      have HTU:=za (zA htu hszw)
      have hsz:=HD2.out.2.size
      have HNU:=za hnu
      have HWU:=za hwu
      have HR2:=za HO2.out.row
      clear hd HG HD HO htu hnu hwu
      obtain ⟨nm,hs,ml,dis,ga,gs,gc⟩:=u
      unfold Us.v Us.cells
      dsimp only
      generalize hgl:gs.length=gl at *
      go_wp2_with (first
        | (at_builtin; refine wpList_append_own _ rfl _ _ 27 rfl w.heap.size 37 i0 (.agg #[.string ⟨#[]⟩,.string ⟨#[]⟩,.string ⟨#[]⟩,.bool false,.slice none 0 0]) 5 80 Tryz.underlying27 hi hz0 hz1 hz2 rfl (by decide) _ _ _ rfl (HR2.out.alloc _) ⟨w2.heap.size,0,none⟩ 1 1 [.string nm,.string hs,.string ml,.bool dis,.slice ga gl gc] rfl rfl
            (fun j u hu=>by rw [Addr.add_lit,Nat.zero_add,World.cell?_alloc_at _ _ _ _ rfl]; simpa using hu) (by simp [Value.oneCell']) (by unfold maxLen; omega) (by omega) (by simp; omega) ?_
           intro v' w3 hown' hgrow _
           have HO3:=za hown'
           have HG3:=za hgrow
           clear hown' hgrow)
        | fail)
      go_roundg (n - (k+1))
      case measure=>omega
      case rel =>
        have ht0:zm (fun i=>u5.ownBlock=some i) w2 w3:=(((zm.refl _ w2).alloc _).grown HG3.out (fun k hk _=>hk))
        refine ⟨k+1,acc++[fF s1],l2++[⟨nm,hs,ml,dis,ga,gs,gc⟩],(Xo 2 s1).1,by omega,by omega,by go_num,HAC2,?_,?_⟩
        · exact za ⟨HD2.out.1.beside12 HO2.out.row ht0,HD2.out.2.next ht0 (fun i hi he=>by have:=(HO2.out.row.lt i he).1; omega)⟩
        · refine za ⟨by rw [List.map_append,HO2.out.same,List.map_singleton,HNU.out],?_,fun x hx=>?_,fun x hx=>?_⟩
          · rw [fC]
            subst hgl
            exact HO3.out
          · rcases List.mem_append.1 hx with hx | hx
            · exact HO2.out.wide x hx
            · rw [List.mem_singleton.1 hx]; exact HWU.out
          · rcases List.mem_append.1 hx with hx | hx
            · exact jW (HO2.out.txt x hx) HO2.out.row ht0
            · rw [List.mem_singleton.1 hx]
              subst hgl
              exact jW HTU.out HO2.out.row ht0
    · have hltz:¬ (k:Int)<(n:Int):=by omega
      obtain rfl:k=n:=by omega
      have hac:=HAC.out
      rw [Nat.sub_self] at hac
      have e1:us.1=s1:=by rw [hac.2.2]; rfl
      have e2:us.2=acc:=by rw [hac.2.2]; exact List.append_nil acc
      have HF:Hid (FC w B k us.1 us.2 (.returned u5) wr):=⟨u5,l2,rfl,by rw [e2]; exact HO.out,by rw [e1]; exact HD.out⟩
      clear hac e1 e2 HAC HO HD
      go_wp2
      go_ret
      exact HF.out

def XG (w:World) (r:Int×List Us×List ByteArray) (e:Ending) (w':World):Prop :=
 (r.1≠0∧e=.returned (.tuple #[.pointer none,.int .i64 r.1])∧Below w.heap.size w w') ∨
 (r.1=0∧∃ D P M Gr A L S k,e=.returned (.tuple #[.pointer (some ⟨D,0,none⟩),.int .i64 0])∧zo w w' D P M Gr A L S∧XL A L S r.2.1 r.2.2 k∧k≤200)
theorem XL.nrm12 {A:zG} {L:zQ} {S:zw} {l l2:List Us} {G:List ByteArray} {k:Nat} (h:XL A L S l2 G k) (e:l2.map yw=l):XL A L S l G k:=by
 subst e
 unfold XL at h ⊢
 rw [Ug,List.length_map]
 exact h
theorem JL (A A2:Option Addr) (c c2 n m:Nat) (l l2:List Us) (G:List ByteArray) (w:World) (he:l2.map yw=l) (hl:n=l.length) (hn:n≤1000) (hr:UT w A l2) (ho:∀ u∈l2,u.Ok w) (hm:m=G.length) (hm1:m≤1000) (hg:RdS w A2 G) (hgs:∀ g∈G,g.size≤9223372036854775807) (h5:ud w) :
  Calls Tryz.prog 27 #[.slice A n c,.slice A2 m c2] w (Of11 l G w):=by
 have hx:ue l2 G=ue l G:=by rw [← he,fU]
 refine (JM A A2 c c2 n m l2 G w (by rw [hl,← he,List.length_map]) hn hr ho hm hm1 hg hgs h5).mono fun e w' h=>?_
 unfold Of11 at h ⊢
 rw [hx] at h
 rcases h with h | ⟨h0,D,P,M,Gr,A,L,S,k,h1,h2,h3,h4⟩
 ·
  exact .inl h
 ·
  exact .inr ⟨h0,D,P,M,Gr,A,L,S,k,h1,h2,h3.nrm12 he,h4⟩

set_option maxRecDepth 100000 in
theorem fread12_calls (u:Value) (bs:List UInt8) (w:World) (hu:Rd w u bs) (hl:bs.length≤100000) (hm:ud w) :
  Calls Tryz.prog 35 #[u] w (XG w (FL bs)):=by
 have HOF:=za (of_calls u bs w hu (by omega))
 have HM:=za hm
 have l1:=U7 ⟨bs,0⟩
 have l0:(⟨bs,0⟩:St).bs.length≤100000:=hl
 have HSC:Hid (∀ W R,Rdr W R ⟨bs,0⟩→Calls Tryz.prog 101 #[.pointer (some ⟨R,0,none⟩)] W (Void W R (uk ⟨bs,0⟩))):=fun W R hr=>YF R _ W hr l0
 unfold FL
 generalize uk ⟨bs,0⟩=s0 at *
 have l2:=YI s0 6 12
 have z2:=fk s0 6 12
 have HRW:Hid (∀ W R,Rdr W R s0→Calls Tryz.prog 102 #[.pointer (some ⟨R,0,none⟩),.int .i64 6,.int .i64 12] W (Rows6 W R (Zo s0 6 12).1 (Zo s0 6 12).2)):=fun W R hr=>YG R s0 6 12 W hr (by have:s0.bs.length≤100000:=Nat.le_trans l1 l0; omega)
 have hgl:(Zo s0 6 12).2.length≤1000:=row_few12 s0 6 12 (by omega)
 unfold tail12
 generalize Zo s0 6 12=g at *
 obtain ⟨s1,G⟩:=g
 dsimp only at *
 have hc:=Fp s1
 have l3:=J4 s1
 have HCT:Hid (∀ W R,Rdr W R s1→Calls Tryz.prog 104 #[.pointer (some ⟨R,0,none⟩)] W fun e w'=>e=.returned (.int .i64 (vD s1).2)∧Did W R (vD s1).1 w'):=fun W R hr=>XW R s1 W hr (by omega)
 generalize hcs:vD s1=cs at *
 obtain ⟨s2,n⟩:=cs
 dsimp only at *
 clear hcs
 have hln:=jU n s2
 have HUR:Hid (∀ W R,Rdr W R s2→ud W→R≠0→Calls Tryz.prog 103 #[.pointer (some ⟨R,0,none⟩),.int .i64 n] W (FC W R n (xr n s2).1 (xr n s2).2)):=fun W R hr hm hR=>XQ R n s2 W hr (by omega) hc hm hR
 generalize hus:xr n s2=us at *
 obtain ⟨s3,l⟩:=us
 dsimp only at *
 clear hus
 have HER:Hid (∀ W R,Rdr W R s3→Calls Tryz.prog 105 #[.pointer (some ⟨R,0,none⟩)] W fun e w'=>e=.returned (.int .i64 s3.e)∧W=w'):=fun W R hr=>Vr R s3 W hr
 have HEN:Hid (∀ W R,Rdr W R s3→Calls Tryz.prog 106 #[.pointer (some ⟨R,0,none⟩)] W fun e w'=>e=.returned (.int .i64 (endS s3))∧W=w'):=fun W R hr=>rend_calls R s3 W hr
 obtain ⟨m,hmg⟩:∃ m,m=G.length:=⟨_,rfl⟩
 have hgz:∀ x∈G,x.size≤9223372036854775807:=fun x hx=>by have:=z2 x hx; omega
 have HNO:Hid (∀ A A2 c c2 l2 W,l2.map yw=l→UT W A l2→(∀ u∈l2,u.Ok W)→RdS W A2 G→ud W→Calls Tryz.prog 27 #[.slice A n c,.slice A2 m c2] W (Of11 l G W)):=fun A A2 c c2 l2 W he hr ho hg h5=>JL A A2 c c2 n m l l2 G W he hln.symm (by omega) hr ho hmg (by omega) hg hgz h5
 have HLN:Hid (l.length=n):=hln
 rw [← hmg] at hgl
 have HMG:=za hmg
 obtain ⟨out,hout⟩:∃ out,out=code12 G (s3,l):=⟨_,rfl⟩
 have HO:Hid (out=if s3.e≠0 then (s3.e,[],[]) else if ue l G≠0 then (ue l G,[],[]) else if endS s3≠0 then (endS s3,[],[]) else (0,l,G)):=hout
 rw [← hout]
 obtain ⟨A0,c0,rfl⟩:=hu.shape
 clear hout hu hm hl l0 l1 l2 l3 z2 hgz hln hc hmg
 unfold Of11 at HNO
 generalize ue l G=oe at *
 generalize endS s3=en at *
 go_enter Tryz.func35,Tryz.ntmps35
 go_wp2_with fail
 with_reducible refine HOF.out.mono ?_
 rintro e w1 ⟨R,hR,rfl,hr,ht⟩
 have hb1:=ht.below (fun _ f=>f.elim)
 have HB1:=za hb1
 have HR1:=za (Did.refl hr)
 have hRM:R≠0:=by have:=HM.out.1; omega
 have HRM:=za hRM
 have HM1:Hid (∀ W s,Did w1 R s W→ud W):=fun W s hd=>by
  obtain ⟨hlt,m,hcm⟩:=HM.out.later HB1.out
  exact ⟨Nat.lt_of_lt_of_le hlt hd.2.size,m,(hd.2.cell (p:=⟨0,0,none⟩) hlt (fun e=>hRM e.symm)).trans hcm⟩
 have HBW:Hid (∀ W s,Did w1 R s W→Below w.heap.size w W):=fun W s hd=>((ht.mono (S':=fun i=>i=R) (fun _ _ f=>f.elim)).next hd.2 (fun _ _ h=>h)).below (fun i hi=>by omega)
 clear hr ht hb1 HOF hRM HM HB1
 go_wp2_with fail
 with_reducible refine (HSC.out w1 R HR1.out.rdr).mono ?_
 rintro e w2 ⟨rfl,hd⟩
 have HR2:=za (HR1.out.next hd)
 clear hd HSC HR1
 go_wp2_with fail
 with_reducible refine (HRW.out w2 R HR2.out.rdr).mono ?_
 rintro e w3 ⟨Ag,cg,rfl,hog,hng,hd⟩
 rw [← HMG.out] at hog hng ⊢
 have HR3:=za (HR2.out.next hd)
 have hR2:R<w2.heap.size:=HR2.out.rdr.lt
 have HG3:=za (ZS hog hng)
 clear hd hog hng HRW
 go_wp2_with fail
 with_reducible refine (HCT.out w3 R HR3.out.rdr).mono ?_
 rintro e w4 ⟨rfl,hd⟩
 have HR4:=za (HR3.out.next hd)
 have HG4:=za (jF HG3.out (Nat.le_refl _) hd.2 (fun j hj he=>by have he':j=R:=he; omega))
 clear hd HCT HR3 HG3 HR2
 go_wp2_with fail
 with_reducible refine (HUR.out w4 R HR4.out.rdr (HM1.out w4 _ HR4.out) HRM.out).mono ?_
 rintro e w5 ⟨v,l2,rfl,hmem,hd⟩
 have HR5:=za (HR4.out.next hd)
 have hg5:=jF HG4.out (Nat.zero_le _) hd.2 (fun j hj he=>by have he':j=R:=he; omega)
 have HG5:Hid (RdS w5 Ag G):=(qE hg5 HMG.out).1
 obtain ⟨A,c,rfl⟩:=vP (zA hmem.row (Nat.zero_le _))
 have HU5:Hid (UT w5 A l2):=Qi hmem.row (by rw [← HLN.out,← hmem.same,List.length_map])
 have HOK:=za hmem.ok
 have HSM:=za hmem.same
 clear hd hmem hg5 HUR HR4 HG4 hR2
 go_wp2_with fail
 with_reducible refine (HER.out w5 R HR5.out.rdr).mono ?_
 rintro e w6 ⟨rfl,rfl⟩
 clear HER
 by_cases h0:s3.e=0
 case neg =>
  have hz:(s3.e != 0)=true:=by simpa using h0
  have ho:=HO.out
  rw [if_pos h0] at ho
  have HF:Hid (XG w out (.returned (.tuple #[.pointer none,.int .i64 s3.e])) w5):=.inl ⟨by rw [ho]; exact h0,by rw [ho],HBW.out w5 _ HR5.out⟩
  clear ho HO h0
  go_wp2
  go_ret2
  exact HF.out
 have hz:(s3.e != 0)=false:=by simpa using h0
 have ho:=HO.out
 rw [if_neg (by simpa using h0)] at ho
 have HO2:=za ho
 have HOU5:=za (HNO.out A Ag c cg l2 w5 HSM.out HU5.out HOK.out HG5.out (HM1.out w5 _ HR5.out))
 clear ho HO h0 HNO
 go_wp2_with fail
 with_reducible refine HOU5.out.mono ?_
 rintro e w7 hcase
 clear HOU5
 rcases hcase with ⟨hne,rfl,hb⟩ | ⟨h0,D,P,M,Gr,Aa,L,S,k,rfl,hown,hst,hk⟩
 ·
  have ho:=HO2.out
  rw [if_pos hne] at ho
  have hx1:(oe != 0)=true:=by simpa using hne
  have HF:Hid (XG w out (.returned (.tuple #[.pointer none,.int .i64 oe])) w7):=.inl ⟨by rw [ho]; exact hne,by rw [ho],z8 (HBW.out w5 _ HR5.out) hb⟩
  clear ho HO2 hne hb
  go_wp2
  go_ret2
  exact HF.out
 subst h0
 have ho:=HO2.out
 rw [if_neg (by simp)] at ho
 have HO3:=za ho
 have HEN7:=za (HEN.out w7 R (HR5.out.rdr.still (zm.of_below hown.below _)))
 have HOW:Hid (zo w w7 D P M Gr Aa L S):=hown.base (HBW.out w5 _ HR5.out)
 have HST:=za hst
 clear ho HO2 hown hst HEN HU5
 go_wp2_with fail
 with_reducible refine HEN7.out.mono ?_
 rintro e w8 ⟨rfl,rfl⟩
 clear HEN7
 by_cases h0:en=0
 ·
  have hz2:(en != 0)=false:=by simpa using h0
  have ho:=HO3.out
  rw [if_neg (by simpa using h0)] at ho
  have HF:Hid (XG w out (.returned (.tuple #[.pointer (some ⟨D,0,none⟩),.int .i64 0])) w7):=.inr ⟨by rw [ho],D,P,M,Gr,Aa,L,S,k,rfl,HOW.out,by rw [ho]; exact HST.out,hk⟩
  clear ho HO3 h0
  go_wp2
  go_ret2
  exact HF.out
 ·
  have hz2:(en != 0)=true:=by simpa using h0
  have ho:=HO3.out
  rw [if_pos h0] at ho
  have HF:Hid (XG w out (.returned (.tuple #[.pointer none,.int .i64 en])) w7):=.inl ⟨by rw [ho]; exact h0,by rw [ho],HOW.out.below⟩
  clear ho HO3 h0
  go_wp2
  go_ret2
  exact HF.out

def UV (w:World) (B:Nat) (bs:List UInt8) (e:Ending) (w':World):Prop:=e=.returned (.pointer (some ⟨B,0,none⟩))∧NW6 w B bs w'
theorem NW6.byte12 {w W:World} {B:Nat} {bs:List UInt8} (xi:Int) (x:Nat) (h:NW6 w B bs W) (ex:xi=x) (hx:x<256) (hr:bs.length≤500000) :
  Calls Tryz.prog 95 #[.pointer (some ⟨B,0,none⟩),.int .u8 xi] W (UV w B (bs++le x 1)):=by
 subst ex
 obtain ⟨hB,⟨v,hw,hv⟩,ht⟩:=h
 exact (VQ B v bs x W hw hx (by omega)).mono fun e w' ⟨he,hg⟩=>⟨he,hg.nw6 hB hv ht⟩
theorem NW6.two12 {w W:World} {B:Nat} {bs:List UInt8} (xi:Int) (x:Nat) (h:NW6 w B bs W) (ex:xi=x) (hx:x<65536) (hr:bs.length≤500000) :
  Calls Tryz.prog 97 #[.pointer (some ⟨B,0,none⟩),.int .u16 xi] W (UV w B (bs++le x 2)):=by
 subst ex
 obtain ⟨hB,⟨v,hw,hv⟩,ht⟩:=h
 exact (fD B v bs x W hw hx (by omega)).mono fun e w' ⟨he,hg⟩=>⟨he,hg.nw6 hB hv ht⟩
theorem NW6.row12 {w W:World} {B:Nat} {bs:List UInt8} {b c:Nat} {A:Option Addr} (ss:List ByteArray) (h:NW6 w B bs W) (ho:W.ownsRow b 9 1 (.slice A ss.length c) ss.length (yb ss)) (hl:ss.length≤65535) (hs:∀ s∈ss,s.size≤65535) (hr:bs.length≤500000) :
  Calls Tryz.prog 96 #[.pointer (some ⟨B,0,none⟩),.slice A ss.length c] W (UV w B (bs++jY ss)):=by
 obtain ⟨hB,⟨v,hw,hv⟩,ht⟩:=h
 obtain ⟨f1,_,f3,f4⟩:=qE ho rfl
 refine (Q8 B v bs A ss.length c ss W hw f3 f4 (by omega) f1 (fun hne a ha=>?_) hs (by omega)).mono fun e w' ⟨he,hg⟩=>⟨he,hg.nw6 hB hv ht⟩
 rcases ho.2 with ⟨h0,h1⟩ | ⟨g,cap,cur,hv',_,hg,_⟩
 ·
  exact absurd (List.eq_nil_of_length_eq_zero h1) hne
 ·
  injection hv' with hA _ _
  rw [hA] at ha
  injection ha with ha
  subst ha
  rintro (he | he)
  ·
   have he':g=B:=he
   subst he'
   have:=hw.1.symm.trans hg
   simp at this
  ·
   rcases hw.2.2 with ⟨hv2,_⟩ | ⟨g',cap',cur',hv2,_,hg',_⟩
   ·
    rw [hv2] at he; simp [Value.ownBlock] at he
   ·
    rw [hv2] at he
    have:g'=g:=by simpa [Value.ownBlock] using he
    subst this
    have:=hg'.symm.trans hg
    simp at this


theorem plU_us12 (R:zH W11):qD (R.map Yu)=zc R:=by
 unfold qD zc
 rw [List.map_map]
 refine List.map_congr_left fun q _=>?_
 show ((zF q.1).data.toList,(⟨q.2.hs.data.toList,q.2.ml.data.toList,q.2.dis,uu (q.2.gs.map zF)⟩:U11))=(q.1,q.2.u)
 rw [zv,Fv]
 rfl
theorem Fe (N:List (List UInt8)):N.map encStr=yb (N.map zF):=by
 unfold yb
 rw [List.map_map]
 rfl
section
variable {w0 w:World} {D P M G:Nat} {A:zG} {L:zQ} {S:zw} {k:Nat}
theorem QS (ho:zo w0 w D P M G A L S) (hg:zt A L S k):Calls Tryz.prog 29 #[.pointer (some ⟨D,0,none⟩)] w fun e w' =>
  ∃ Aa c l,e=.returned (.slice Aa l.length c)∧UT w' Aa l∧(∀ u∈l,u.Ok w')∧qD l=ze A L S∧Below w.heap.size w w':=by
 refine (ZU ho hg).mono fun e w' ⟨v,R,he,hr,hp,hb⟩=>?_
 have hs:=short11 hg
 have hr0:=hr.low (Nat.zero_le _)
 obtain ⟨Aa,c,rfl⟩:=hr0.rw.us.shape
 obtain ⟨h1,h2⟩:=JD hr0.rw.us
 refine ⟨Aa,c,R.map Yu,by rw [← h1]; exact he,h2,fun u hu=>?_,by rw [plU_us12]; exact hp,hb⟩
 obtain ⟨q,hq,rfl⟩:=List.mem_map.1 hu
 have hm:(q.1,q.2.u)∈ze A L S:=by rw [← hp]; exact List.mem_map.2 ⟨q,hq,rfl⟩
 have a2:=hs.hs _ hm
 have a3:=hs.ml _ hm
 exact us11_ok (hr0.2 q hq) (hs.nm _ hm) (by rw [← zx]; exact a2) (by rw [← zx]; exact a3) (hs.gs _ hm)
theorem Xp (ho:zo w0 w D P M G A L S) (hg:zt A L S k):Calls Tryz.prog 63 #[.pointer (some ⟨D,0,none⟩)] w fun e w' =>
  ∃ Aa c,e=.returned (.slice Aa ((zb S).map zF).length c)∧w'.ownsRow 0 9 1 (.slice Aa ((zb S).map zF).length c) ((zb S).map zF).length (yb ((zb S).map zF))∧Below w.heap.size w w':=by
 refine (ji ho hg.grp).mono fun e w' ⟨v,he,hr,hb⟩=>?_
 have hr0:=zA hr (Nat.zero_le _)
 obtain ⟨Aa,c,rfl⟩:=vP hr0
 rw [Fe] at hr0
 refine ⟨Aa,c,by rw [List.length_map]; exact he,?_,hb⟩
 rw [List.length_map]
 exact hr0

set_option maxRecDepth 100000 in
theorem fa (ho:zo w0 w D P M G A L S) (hg:zt A L S k) (h5:ud w) :
  Calls Tryz.prog 34 #[.pointer (some ⟨D,0,none⟩)] w (Told6 w (folT12 (ze A L S) (zb S))):=by
 have hz:=QL hg
 have hmay:=may12 hz
 have HAL:Hid (Calls Tryz.prog 29 #[.pointer (some ⟨D,0,none⟩)] w fun e w'=>∃ Aa c l,e=.returned (.slice Aa l.length c)∧UT w' Aa l∧(∀ u∈l,u.Ok w')∧l.map yw=(ze A L S).map vh∧Below w.heap.size w w') :=
  (QS ho hg).mono fun e w' ⟨Aa,c,l,h1,h2,h3,h4,h5⟩=>⟨Aa,c,l,h1,h2,h3,by rw [← usOf_plU12,h4],h5⟩
 have HGR:Hid (∀ W,Below w.heap.size w W→Calls Tryz.prog 63 #[.pointer (some ⟨D,0,none⟩)] W fun e w'=>∃ Aa c,e=.returned (.slice Aa ((zb S).map zF).length c)∧w'.ownsRow 0 9 1 (.slice Aa ((zb S).map zF).length c) ((zb S).map zF).length (yb ((zb S).map zF))∧Below W.heap.size W w'):=fun W hb=>Xp (ho.later hb) hg
 have H5:=za h5
 have hgz:=hmay.sizes
 have hg6:=hmay.gfew
 unfold folT12
 generalize (zb S).map zF=Gs at *
 have HCH:Hid (∀ l:List Us,l.map yw=(ze A L S).map vh→l.length≤12∧(∀ u∈l,uh 2 u=0)∧folB ((ze A L S).map vh) Gs=folB l Gs):=fun l he=>by
  have m2:May12 l Gs:=may12 (by rw [← fU,he]; exact hz)
  exact ⟨m2.few,m2.all,by rw [← he,folB_nrm12]⟩
 clear hz hmay h5 ho hg
 generalize (ze A L S).map vh=T at *
 generalize folB T Gs=out at *
 have HGZ:Hid (∀ g∈Gs,g.size≤65535):=fun g h=>Nat.le_trans (hgz g h) (by decide)
 have HRL:Hid ((jY Gs).length≤1000):=by
  have:=vr hgz
  show (le Gs.length 2++yC Gs).length≤1000
  rw [List.length_append,yV]
  omega
 obtain ⟨m,hm⟩:∃ m,m=Gs.length:=⟨_,rfl⟩
 have HMG:=za hm
 rw [← hm] at HGR hg6
 clear hm hgz
 go_enter Tryz.func34,Tryz.ntmps34
 go_wp2_with fail
 with_reducible refine HAL.out.mono ?_
 rintro e w1 ⟨Aa,c,l,rfl,hu,hok,hse,hb⟩
 obtain ⟨hfew,hck,hfo⟩:=HCH.out l hse
 obtain ⟨n,hn⟩:∃ n,n=l.length:=⟨_,rfl⟩
 have HLN:Hid (n=l.length):=hn
 have HU:=za hu
 have HOK:=za hok
 have HCK:=za hck
 have HB1:=za hb
 have HSH:Hid (out=le 2 1++jY Gs++le l.length 2++l.flatMap (xW 2)):=by show out=_; rw [hfo]; unfold folB; simp only [List.append_assoc]
 have hbl:∀ k,((l.take k).flatMap (xW 2)).length≤137 * 12:=fun k=>by
  have:=ux (l:=l.take k) (fun q hq=>hck q (List.mem_of_mem_take hq))
  have h2:(l.take k).length≤l.length:=by rw [List.length_take]; omega
  omega
 have HBL:=za hbl
 rw [← hn] at hfew HSH ⊢
 have HM1:=za (H5.out.later hb)
 clear hu hok hck hse hfo hb HAL HCH hn hbl H5
 have HZ:=za (NW6.zero w1)
 go_wp2_with fail
 with_reducible refine (NW6.byte12 _ 2 HZ.out (by simp) (by omega) (by simp)).mono ?_
 rintro e w2 ⟨rfl,h1⟩
 rw [List.nil_append] at h1
 have H1:=za h1
 have HG2:=za (HGR.out w2 (z8 HB1.out h1.2.2))
 clear h1 HZ HGR
 go_wp2_with fail
 with_reducible refine HG2.out.mono ?_
 rintro e w3 ⟨Ag,cg,rfl,hog,hb⟩
 have H2:=za (H1.out.below hb)
 have HOG:=za hog
 clear hb hog HG2 H1
 have HRC:Hid (Calls Tryz.prog 96 #[.pointer (some ⟨w1.heap.size,0,none⟩),.slice Ag m cg] w3 (UV w1 w1.heap.size (le 2 1++jY Gs))):=by
  have ho:=HOG.out
  rw [HMG.out] at ho ⊢
  exact NW6.row12 Gs H2.out ho (by rw [← HMG.out]; omega) HGZ.out (by rw [yV]; omega)
 go_wp2_with fail
 with_reducible refine HRC.out.mono ?_
 rintro e w4 ⟨rfl,h1⟩
 have H3:=za h1
 clear h1 HRC H2 HOG
 go_wp2_with fail
 with_reducible refine (NW6.two12 _ n H3.out (by go_num) (by omega) (by have:=HRL.out; rw [List.length_append,yV]; omega)).mono ?_
 rintro e w5 ⟨rfl,h1⟩
 have H4:=za h1
 have hpre:(le 2 1++jY Gs++le n 2).length≤2000:=by have:=HRL.out; rw [List.length_append,List.length_append,yV,yV]; omega
 clear h1 H3
 generalize le 2 1++jY Gs++le n 2=pre at *
 generalize hB:w1.heap.size=BW at *
 have HBW:=za hB
 clear hB
 go_wp2
 go_loopg [6,21] n (fun gg _ s21 wr=>∃ k:Nat,k≤n∧n - k≤gg∧s21=.int .i64 k∧Hid (NW6 w1 BW (pre++(l.take k).flatMap (xW 2)) wr))
 case atStart=>exact ⟨0,Nat.zero_le _,by omega,rfl,by show NW6 w1 BW (pre++[]) w5; rw [List.append_nil]; exact H4.out⟩
 case round =>
  clear H4
  obtain ⟨k,hk,hg,rfl,HW⟩:=hrel
  have hbw:=HW.out.2.2
  by_cases hlt:k<n
  ·
   have hltz:(k:Int)<(n:Int):=by omega
   have hkl:k<l.length:=HLN.out ▸ hlt
   obtain ⟨b,off,rfl,hb,hc⟩:=(HU.out.later hbw) (by intro e; rw [e] at hkl; exact absurd hkl (Nat.not_lt_zero _))
   have c0:wr.cell? ⟨b,off+k * 5,none⟩=some (.string l[k].nm):=hc k hkl 0 _ rfl
   have c1:wr.cell? ⟨b,off+k * 5+1,none⟩=some (.string l[k].hs):=hc k hkl 1 _ rfl
   have c2:wr.cell? ⟨b,off+k * 5+2,none⟩=some (.string l[k].ml):=hc k hkl 2 _ rfl
   have c3:wr.cell? ⟨b,off+k * 5+3,none⟩=some (.bool l[k].dis):=hc k hkl 3 _ rfl
   have c4:wr.cell? ⟨b,off+k * 5+4,none⟩=some (.slice l[k].ga l[k].gs.length l[k].gc):=hc k hkl 4 _ rfl
   have hb1:=z7 (Below.refl wr.heap.size wr) (.cells #[.string l[k].nm,.string l[k].hs,.string l[k].ml,.bool l[k].dis,.slice l[k].ga l[k].gs.length l[k].gc] 37)
   have hch:=HCK.out l[k] (List.getElem_mem hkl)
   have hlen:(pre++(l.take k).flatMap (xW 2)).length≤100000:=by have:=HBL.out k; rw [List.length_append]; omega
   have HP:Hid (Calls Tryz.prog 98 #[.pointer (some ⟨BW,0,none⟩),.int .i64 2,.agg #[.string l[k].nm,.string l[k].hs,.string l[k].ml,.bool l[k].dis,.slice l[k].ga l[k].gs.length l[k].gc]] (wr.alloc (.cells #[.string l[k].nm,.string l[k].hs,.string l[k].ml,.bool l[k].dis,.slice l[k].ga l[k].gs.length l[k].gc] 37)) fun e w'=>e=.returned (.bool true)∧NW6 w1 BW (pre++(l.take (k+1)).flatMap (xW 2)) w'):=by
    refine (put6_wide w1 BW _ 2 l[k] _ (HW.out.below hb1) (HOK.out _ (List.getElem_mem hkl)) HM1.out hlen).mono fun e w' h=>?_
    rcases h with ⟨_,he,hn⟩ | ⟨h0,_⟩
    ·
     refine ⟨he,?_⟩
     rw [List.take_succ_eq_append_getElem hkl,List.flatMap_append,List.flatMap_singleton,← List.append_assoc]
     exact hn
    ·
     exact absurd hch h0
   clear hc hb hb1 hch hlen hbw HW
   generalize l[k].nm=nm at *
   generalize l[k].hs=hs at *
   generalize l[k].ml=ml at *
   generalize l[k].dis=dis at *
   generalize l[k].ga=ga at *
   generalize l[k].gs.length=gl at *
   generalize l[k].gc=gc at *
   go_wp2_with (go_at_call 98; (with_reducible refine HP.out.mono ?_); rintro e w6 ⟨rfl,h4⟩; have H5:=za h4; clear h4)
   go_roundg (n - (k+1))
   case measure=>omega
   case rel=>exact ⟨k+1,by omega,by omega,by go_num,H5⟩
  ·
   have hltz:¬ (k:Int)<(n:Int):=by omega
   obtain rfl:k=n:=by omega
   have hw:=HW.out
   rw [List.take_of_length_le (by have:=HLN.out; omega),← HSH.out] at hw
   have hol:out.length≤1000000:=by
    have:=HBL.out k
    rw [List.take_of_length_le (by have:=HLN.out; omega)] at this
    rw [HSH.out,List.length_append]
    omega
   have HBY:=za (hw.bytes hol)
   have HBB:=za (z8 HB1.out hw.2.2)
   have hszb:=HBB.out.size
   clear hw hol hbw HW
   go_wp2_with fail
   with_reducible refine HBY.out.mono ?_
   rintro e w7 ⟨v7,rfl,ho,hn,hb⟩
   have HF:Hid (Told6 w out (.returned v7) w7):=⟨v7,rfl,ho,fun j hj=>Nat.le_trans hszb (hn j hj),z8 HBB.out hb⟩
   clear ho hn hb HBY
   go_wp2
   go_ret
   exact HF.out
end

set_option maxRecDepth 100000 in
theorem lives12_calls (w:World) (h5:ud w):Calls Tryz.prog 32 #[] w (zV true w):=by
 have HN:=za (jh w)
 have HBY:Hid (∀ W D P M G,zo w W D P M G [] [] []→Calls Tryz.prog 34 #[.pointer (some ⟨D,0,none⟩)] W (Told6 W [2,0,0,0,0])):=fun W D P M G h=>fa h zt.nil (h5.later h.below)
 clear h5
 go_enter Tryz.func32,Tryz.ntmps32
 go_wp2_with fail
 with_reducible refine HN.out.mono ?_
 rintro e w1 ⟨D,P,M,G,rfl,ho⟩
 have HB1:=za ho.below
 have HB:=za (HBY.out w1 D P M G ho)
 clear ho HN HBY
 go_wp2_with fail
 with_reducible refine HB.out.mono ?_
 rintro e w2 ⟨v2,rfl,ho,_,hb⟩
 have hrd:=(Rd.of_own ho).string (P:=Tryz.prog) (src:=66) (dst:=9) Tryz.underlying66 Tryz.underlying5 Tryz.underlying9
 obtain ⟨A2,c2,rfl⟩:=vP ho
 have HB2:=za (z8 HB1.out hb)
 clear ho hb HB
 have hrd6:(convert 66 9 (.slice A2 5 c2)).run Tryz.prog w2=.ok (.string ⟨#[2,0,0,0,0]⟩) w2:=hrd
 clear hrd
 go_wp2
 go_ret
 exact ⟨rfl,HB2.out⟩

end Go.Proofs.YtmcomnocpibiiaaGreatDoor
namespace Go.Proofs.YtmcomnocpibiiaaGreatDoor
open Go.RowKit Go.Maps
set_option linter.unusedVariables false

def fi (w0:World) (D:Nat) (T:yi) (N:List (List UInt8)) (v vg:Value) (k:Nat) (W:World):Prop :=
 ∃ P M G A L S R,zo w0 W D P M G A L S∧zt A L S k∧va 0 R W v∧NmR W vg N∧zc R=T∧ze A L S=T∧zb S=N
theorem fi.later {w0 W W':World} {D k:Nat} {T:yi} {N:List (List UInt8)} {v vg:Value} (h:fi w0 D T N v vg k W) (hb:Below W.heap.size W W'):fi w0 D T N v vg k W':=by
 obtain ⟨P,M,G,A,L,S,R,h1,h2,h3,h4,h5⟩:=h
 exact ⟨P,M,G,A,L,S,R,h1.later hb,h2,h3.later hb,h4.later hb,h5⟩
theorem fi.below {w0 W:World} {D k:Nat} {T:yi} {N:List (List UInt8)} {v vg:Value} (h:fi w0 D T N v vg k W):Below w0.heap.size w0 W:=by
 obtain ⟨P,M,G,A,L,S,R,h1,_⟩:=h
 exact h1.below
def Played12 (w:World) (n:Nat) (e:Ending) (w':World):Prop :=
 ∃ D T N A1 n1 C1 A2 n2 C2,e=.returned (.tuple #[.pointer (some ⟨D,0,none⟩),.agg #[.slice A1 n1 C1,.slice A2 n2 C2]])∧fi w D T N (.slice A1 n1 C1) (.slice A2 n2 C2) n w'
def Gp12 (Wi Wf:World) (L:Nat→Bool) (W:World):Prop:=W=if L 3=true then Wf else Wi
theorem Gp12.quiet {Wi Wf W:World} {L:Nat→Bool} (h:Gp12 Wi Wf L W) (i:Nat) (hi:i≠3):Gp12 Wi Wf (vm L i) W:=by
 unfold Gp12 at *
 rw [show vm L i 3=L 3 from if_neg (by omega)]
 exact h
theorem Gp12.ahead {Wi Wf W:World} {L:Nat→Bool} (h:Gp12 Wi Wf L W) (hL:L 3=false):W=Wi:=by
 unfold Gp12 at h
 rw [hL] at h
 exact h
theorem Gp12.stored {Wi Wf:World} (L:Nat→Bool):Gp12 Wi Wf (vm L 3) Wf:=by
 unfold Gp12
 rw [show vm L 3 3=true from if_pos rfl]
 rfl
def YPd12 (D:Nat) (v vg:Value):Nat→Value→World→Prop
 | 0,u,_=>u=.pointer (some ⟨D,0,none⟩)
 | 1,u,_=>u=.agg #[v,vg]
 | 2,u,_=>u=.pointer (some ⟨D,0,none⟩)
 | _,_,_=>True
theorem YPd12_keep {D:Nat} {v vg:Value} {W W':World} (j:Nat) (z:Value) (h:YPd12 D v vg j z W):YPd12 D v vg j z W':=by
 match j,h with
 | 0,h=>exact h
 | 1,h=>exact h
 | 2,h=>exact h
 | _+3,_=>trivial

set_option maxRecDepth 100000 in
theorem played12_calls (A:Option Addr) (c n:Nat) (l:List Jk) (w:World) (hm:ud w) (hl:n=l.length) (hn60:n≤60) (hsz:∀ t∈l,t.nm.size≤50∧t.hs.size≤50) (hr:RdAN w A l) :
  Calls Tryz.prog 33 #[.slice A n c] w (Played12 w n):=by
 have HNW:Hid (∀ W,Calls Tryz.prog 13 #[] W fun e w'=>∃ D P M G,e=.returned (.pointer (some ⟨D,0,none⟩))∧zo W w' D P M G [] [] []):=jh
 have HR:=za hr
 have HL:=za hl
 have hb1:=z7 (Below.refl w.heap.size w) (.cells #[.slice none 0 0,.slice none 0 0] zn)
 have H51:=za (hm.later hb1)
 have HB1:=za hb1
 have HRB1:=za (zp w (.slice none 0 0) (.slice none 0 0))
 have HSZ:=za hsz
 clear hr hl hm hsz hb1
 have hzd:∀ w:World,(zeroValue zn).run Tryz.prog w=.ok (.agg #[.slice none 0 0,.slice none 0 0]) w:=fun w=>by kernel_rfl
 go_enter Tryz.func33,Tryz.ntmps33
 go_wp2_with fail
 generalize w.alloc (.cells #[.slice none 0 0,.slice none 0 0] zn)=w1 at *
 with_reducible refine (HNW.out w1).mono ?_
 rintro e w3 ⟨D,P,M,G,rfl,ho⟩
 have HO:=za ho
 have HZB:Hid (w1.heap.size≤w3.heap.size):=ho.below.size
 have HRB3:Hid (yj (w3.alloc (.cells #[.slice none 0 0,.slice none 0 0] zn)) w.heap.size (.slice none 0 0) (.slice none 0 0)):=(HRB1.out.later ho.below).later (z7 (Below.refl w3.heap.size w3) _)
 have HNE:Hid (w.heap.size≠w3.heap.size):=by have h1:=HRB1.out.lt; have h2:=HZB.out; show _≠_; omega
 clear HNW ho HRB1
 have HL0:Hid (Loop11 w1 D P M G w3.heap.size 0 (w3.alloc (.cells #[.slice none 0 0,.slice none 0 0] zn))):=by
  have hb:=z7 (Below.refl w3.heap.size w3) (.cells #[.slice none 0 0,.slice none 0 0] zn)
  exact ⟨[],[],[],[],none,0,none,0,HO.out.later hb,zt.nil,zp _ _ _,va.nil _ _,NmR.nil _,rfl⟩
 clear HO
 go_wp2
 clear hzd
 generalize w3.alloc (.cells #[.slice none 0 0,.slice none 0 0] zn)=w4 at *
 generalize w3.heap.size=Wb at *
 go_loopg [7,11] n (fun gg _ s11 wr=>∃ k:Nat,k≤n∧n - k≤gg∧s11=.int .i64 k∧Hid (Loop11 w1 D P M G Wb k wr)∧Hid (yj wr w.heap.size (.slice none 0 0) (.slice none 0 0)))
 case atStart=>exact ⟨0,Nat.zero_le _,by omega,rfl,HL0,HRB3⟩
 case round =>
  obtain ⟨k,hk,hg,rfl,HW,HRB⟩:=hrel
  clear HRB3 HL0
  by_cases hlt:k<n
  ·
   have hltz:(k:Int)<(n:Int):=by omega
   have hkl:k<l.length:=HL.out ▸ hlt
   obtain ⟨A0,L0,S0,R,A1,C1,A2,C2,ho,hgd,hx,hr1,hn1,hp1⟩:=HW.out
   obtain ⟨b,off,rfl,hb,hc⟩:=(HR.out.later (z8 HB1.out ho.below)) (by intro e; rw [e] at hkl; exact absurd hkl (Nat.not_lt_zero _))
   have c0:wr.cell? ⟨b,off+k * 4,none⟩=some (.int .u8 (l[k].kd:Int)):=hc k hkl 0 _ rfl
   have c1:wr.cell? ⟨b,off+k * 4+1,none⟩=some (.string l[k].nm):=hc k hkl 1 _ rfl
   have c2:wr.cell? ⟨b,off+k * 4+2,none⟩=some (.string l[k].hs):=hc k hkl 2 _ rfl
   have c3:wr.cell? ⟨b,off+k * 4+3,none⟩=some (.bool l[k].is_):=hc k hkl 3 _ rfl
   have hbv:=z7 (Below.refl wr.heap.size wr) (.cells #[.int .u8 (l[k].kd:Int),.string l[k].nm,.string l[k].hs,.bool l[k].is_] 32)
   have hbv0:=hbv
   have HDO:=za (VN R _ _ l[k].kd l[k].nm l[k].hs l[k].is_ _ (ho.later hbv) hgd (by omega) H51.out (hr1.later hbv) (hn1.later hbv) hp1 (HSZ.out _ (List.getElem_mem hkl)).1 (HSZ.out _ (List.getElem_mem hkl)).2)
   have HXV:=za (hx.later hbv)
   have HAV:=za (act11_new wr l[k].kd l[k].nm l[k].hs l[k].is_)
   have x0:=HXV.out.c0
   have x1:=HXV.out.c1
   have xl:=hx.lt
   have av0:=HAV.out.c0
   have av1:=HAV.out.c1
   have av2:=HAV.out.c2
   have av3:=HAV.out.c3
   clear hc hb ho hx hr1 hn1 hp1 hgd hbv HW HAV
   generalize l[k].kd=kd at *
   generalize l[k].nm=nm at *
   generalize l[k].hs=hs at *
   generalize l[k].is_=is_ at *
   generalize List.length R=nR at *
   generalize List.length (zb S0)=nN at *
   clear hkl
   go_wp2_with fail
   with_reducible refine HDO.out.mono ?_
   rintro e w5 ⟨A5,L5,S5,R5,v1,v2,rfl,ho5,hg5,hr5,hn5,hp5,hk5,_⟩
   obtain ⟨a5,c5,rfl⟩:=hr5.rw.us.shape
   obtain ⟨a6,c6,rfl⟩:=hn5.shape
   have hx5:=HXV.out.keeps11 hk5
   have HRB5:=za (HRB.out.keeps11 ((zu.of_below hbv0).trans hk5))
   have r0:=hx5.c0
   have r1:=hx5.c1
   have rf0:=hx5.f0
   have rf1:=hx5.f1
   have HLN:Hid (Loop11 w1 D P M G Wb (k+1) ((w5.setCell ⟨Wb,0,none⟩ (.slice a5 R5.length c5)).setCell ⟨Wb,1,none⟩ (.slice a6 (zb S5).length c6))):=JS HXV.out HZB.out hk5 ho5 hg5 hr5 hn5 hp5

   have HRB6:Hid (yj ((w5.setCell ⟨Wb,0,none⟩ (.slice a5 R5.length c5)).setCell ⟨Wb,1,none⟩ (.slice a6 (zb S5).length c6)) w.heap.size (.slice none 0 0) (.slice none 0 0)):=(HRB5.out.other HNE.out _).other HNE.out _
   clear ho5 hg5 hr5 hn5 hp5 hk5 hx5 HXV HDO x0 x1 xl c0 c1 c2 c3 av0 av1 av2 av3 HRB5 HRB hbv0
   generalize List.length R5=nR5 at *
   generalize List.length (zb S5)=nN5 at *
   go_wp2
   go_roundg (n - (k+1))
   case measure=>omega
   case rel=>exact ⟨k+1,by omega,by omega,by go_num,HLN,HRB6⟩
  ·
   have hltz:¬ (k:Int)<(n:Int):=by omega
   obtain rfl:k=n:=by omega
   obtain ⟨A0,L0,S0,R,A1,C1,A2,C2,ho,hgd,hx,hr1,hn1,hp1⟩:=HW.out
   have HX:=za hx
   generalize List.length R=nR at *
   generalize List.length (zb S0)=nN at *
   have HNN:=za HNE.out
   have HFIN:Hid (Played12 w k (.returned (.tuple #[.pointer (some ⟨D,0,none⟩),.agg #[.slice A1 nR C1,.slice A2 nN C2]])) ((wr.drew.setCell ⟨w.heap.size,0,none⟩ (.slice A1 nR C1)).setCell ⟨w.heap.size,1,none⟩ (.slice A2 nN C2))):=by
    have hd:=zS (Below.refl wr.heap.size wr)
    have hb:=HRB.out.later hd
    have hkg:zO wr.drew ((wr.drew.setCell ⟨w.heap.size,0,none⟩ (.slice A1 nR C1)).setCell ⟨w.heap.size,1,none⟩ (.slice A2 nN C2)):=(hb.keep 0 _).trans ((hb.set0 _).keep 1 _)
    exact ⟨D,_,_,_,_,_,_,_,_,rfl,P,M,G,A0,L0,S0,R,((((ho.base HB1.out).later hd).cell11 hb (Nat.le_refl _) _).cell11 (hb.set0 _) (Nat.le_refl _) _),hgd,(hr1.later hd).keepD11 hkg,(hn1.later hd).keepD11 hkg,hp1,rfl,rfl⟩
   have HRD:=za (HRB.out.later (zS (Below.refl wr.heap.size wr)))
   have HXD:=za (HX.out.later (zS (Below.refl wr.heap.size wr)))
   clear ho hgd hx hr1 hn1 hp1 HW HRB HX
   go_wp2_with fail
   generalize hwd:wr.drew=wd at *
   refine U0 (by kernel_rfl) (YPd12 D (.slice A1 nR C1) (.slice A2 nN C2)) (Gp12 wd ((wd.setCell ⟨w.heap.size,0,none⟩ (.slice A1 nR C1)).setCell ⟨w.heap.size,1,none⟩ (.slice A2 nN C2))) ?F ?hF (by kernel_rfl) (by kernel_rfl) hwd ?step ?fin
   case hF =>
    intro x
    simp only [List.map_cons,List.map_nil,vI,Act.put,List.setIfInBounds_toArray,List.set_cons_zero,List.set_cons_succ,Nat.zero_add,Nat.reduceAdd]
    exact rfl
   case step =>
    refine ⟨?_,?_,?_,?_,trivial⟩
    all_goals intro L x W hL hd hG hdep K hK
    ·
     clear hdep
     go_simp
     exact hK _ _ rfl (hG.quiet 0 (by omega)) (fun _ _ h=>h)
    ·
     have q:W.cell? ⟨Wb,0,none⟩=some (.slice A1 nR C1)∧W.cell? ⟨Wb,1,none⟩=some (.slice A2 nN C2):=by
      have hx:=HXD.out
      rw [hG]
      split
      ·
       have hx2:=(hx.other (Ne.symm HNN.out) (i:=0) (.slice A1 nR C1)).other (Ne.symm HNN.out) (i:=1) (.slice A2 nN C2)
       exact ⟨hx2.c0,hx2.c1⟩
      ·
       exact ⟨hx.c0,hx.c1⟩
     have q0:=q.1
     have q1:=q.2
     clear hdep q
     go_simp
     exact hK _ _ rfl (hG.quiet 1 (by omega)) (fun _ _ h=>h)
    ·
     have h0:x 0=_:=hdep 0 rfl
     clear hdep
     simp only [h0] at hK
     go_simp
     exact hK _ _ rfl (hG.quiet 2 (by omega)) (fun _ _ h=>h)
    ·
     have h1:x 1=_:=hdep 1 rfl
     have hb:=HRD.out
     obtain rfl:=hG.ahead hL
     have z0:=hb.c0
     have z1:=hb.c1
     have f0:=hb.f0
     have f1:=hb.f1
     clear hdep hb
     simp only [h1] at hK
     go_simp
     exact hK undef _ trivial (Gp12.stored _) (fun j _ h=>YPd12_keep j _ h)
   case fin =>
    intro L x W8 hall hG hY
    have h2:x 2=.pointer (some ⟨D,0,none⟩):=hY 2 (by decide)
    have hW:W8=_:=hG
    rw [hall 3 (by decide),if_pos rfl] at hW
    have hb:=HRD.out
    have hy:=(hb.set0 (.slice A1 nR C1)).set1 (.slice A2 nN C2)
    subst hW
    have y0:=hy.c0
    have y1:=hy.c1
    have HF2:=HFIN
    clear hY hG hall hb hy HXD HRD HFIN
    rw [h2]
    go_wp2
    refine bodyPost_ret (v:=.tuple #[.pointer (some ⟨D,0,none⟩),.agg #[.slice A1 nR C1,.slice A2 nN C2]]) ?_ rfl HF2.out
    simp [results,Tryz.results33,go_sem,y0,y1]
end Go.Proofs.YtmcomnocpibiiaaGreatDoor
namespace Go.Proofs.YtmcomnocpibiiaaGreatDoor
open Go.RowKit Go.Maps Go.Sort Go.Shelf
set_option linter.unusedVariables false

theorem us_nrm12 (T:yi):(T.map vh).map yw=T.map vh:=by
 rw [List.map_map]
 exact List.map_congr_left fun p _=>rfl
section
variable {w0 W:World} {D k:Nat} {T:yi} {N:List (List UInt8)} {v vg:Value}
theorem fi.of (h:fi w0 D T N v vg k W):ue (T.map vh) (N.map zF)=0:=by
 obtain ⟨P,M,G,A,L,S,R,_,h2,_,_,_,rfl,rfl⟩:=h
 exact QL h2
theorem fi.bytes (h:fi w0 D T N v vg k W) (h5:ud W):Calls Tryz.prog 34 #[.pointer (some ⟨D,0,none⟩)] W (Told6 W (folT12 T N)):=by
 obtain ⟨P,M,G,A,L,S,R,h1,h2,_,_,_,rfl,rfl⟩:=h
 exact fa h1 h2 h5
end
end Go.Proofs.YtmcomnocpibiiaaGreatDoor
namespace Go.Proofs.YtmcomnocpibiiaaGreatDoor
open Go.RowKit Go.Maps
set_option linter.unusedVariables false

/-! ### no more than its users -/
theorem few12 {α:Type} [DecidableEq α]:∀ (l N:List α),l.Nodup→(∀ x∈l,x∈N)→l.length≤N.length
 | [],_,_,_=>Nat.zero_le _
 | x::l,N,hd,hs=>by
  have hx:x∈N:=hs x (List.mem_cons_self ..)
  have hd':=List.nodup_cons.1 hd
  have h:=few12 l (N.erase x) hd'.2 (fun y hy=>(List.mem_erase_of_ne (fun e=>hd'.1 (by subst e; exact hy))).2 (hs y (List.mem_cons_of_mem _ hy)))
  rw [List.length_erase_of_mem hx] at h
  have:=List.length_pos_of_mem hx
  rw [List.length_cons]
  omega
theorem Qa {V:Type} {L:zH V} (h:zB L):(zb L).Nodup:=by
 unfold zb
 refine List.Pairwise.map _ (fun a b hab e=>?_) h
 rw [e,zC] at hab
 cases hab
theorem in_few12 {V V':Type} {X:zH V} {A:zH V'} (h:zB X) (hs:∀ x∈X,zy A x.1=true):X.length≤A.length:=by
 have:=few12 (zb X) (zb A) (Qa h) (fun n hn=>by
  obtain ⟨x,hx,rfl⟩:=List.mem_map.1 hn
  exact yE.1 (hs x hx))
 simpa [zb] using this
theorem zt.trim {A:zG} {L:zQ} {S:zw} {k:Nat} (h:zt A L S k):zt A L S 12:=by
 obtain ⟨M,hM⟩:=h.mir
 refine ⟨h.rise,h.few,h.nm,h.mir,h.all,h.has,?_,⟨h.grp.rise,h.grp.sets,h.grp.few,fun p hp=>?_,h.grp.named,h.grp.whos⟩,h.mem⟩
 ·
  exact Nat.le_trans (in_few12 (V:=List UInt8) (X:=L) hM.rl h.has) h.few
 ·
  refine Nat.le_trans (in_few12 (h.grp.sets p hp) (A:=A) fun x hx=>h.mem p.1 x.1 ?_) h.few
  unfold uF
  rw [fY h.grp.rise hp]
  exact xD.2 ⟨x,hx,rfl⟩

/-! ### a directory's blocks -/
def jz (D P M:Nat) (p q:Option Nat) (G:Nat) (pg:Option Nat) (T:zD) (i:Nat):Prop:=i=D∨i=P∨qT M p q i∨qU G pg T i
section
variable {w0 W W':World} {D P M G:Nat} {A:zG} {p q pg:Option Nat} {L LM:zQ} {T:zD}
theorem vf.foot_lt (h:vf W D P A M p q L LM G pg T) {i:Nat} (hi:jz D P M p q G pg T i):i<W.heap.size:=by
 rcases hi with rfl | rfl | hi | hi
 ·
  exact h.lt
 ·
  exact h.acc.lt
 ·
  exact fpM_lt h.idx hi
 ·
  exact fpG_lt h.grp hi
theorem vf.foot_ty (h:vf W D P A M p q L LM G pg T) {i:Nat} {c:Array Value} {X:TypeId} {fr:Nat×Nat} (hi:jz D P M p q G pg T i) (hb:W.heap[i]? = some (.cells c X fr)):X=84∨X=140∨X=143:=by
 rcases hi with rfl | rfl | hi | hi
 ·
  by_cases e:X=84
  ·
   exact .inl e
  ·
   exact absurd rfl (qv hb h.blk e)
 ·
  exact absurd rfl (Zc h.acc hb)
 ·
  by_cases e:X=140
  ·
   exact .inr (.inl e)
  ·
   exact absurd hi (jm h.idx hb e)
 ·
  by_cases e:X=143
  ·
   exact .inr (.inr e)
  ·
   exact absurd hi (jn h.grp hb e)
abbrev vf.fr12 (h:vf W D P A M p q L LM G pg T):Fr11 :=
 ⟨jz D P M p q G pg T,fun i=>W.heap[i]?,W.heap.size,fun _ hi=>h.foot_lt hi,fun _ _ _ _ hf hi=>h.foot_ty hf hi⟩
theorem vf.kept (h:vf W D P A M p q L LM G pg T) (ht:zm (fun i=>¬ jz D P M p q G pg T i) W W'):vf W' D P A M p q L LM G pg T :=
 ⟨(ht.block D h.lt (fun n=>n (.inl rfl))).trans h.blk,h.acc.kept (ht.block P h.acc.lt (fun n=>n (.inr (.inl rfl)))),h.idx.turnsF ht (fun i hi n=>n (.inr (.inr (.inl hi)))),h.grp.turnsF ht (fun i hi n=>n (.inr (.inr (.inr hi)))),h.sep1,h.sep2,h.sep3⟩
end

def uc (w0 W:World) (D1 P1 M1 G1:Nat) (A1:zG) (L1:zQ) (S1:zw) (D2 P2 M2 G2:Nat) (A2:zG) (L2:zQ) (S2:zw):Prop :=
 ∃ p1 q1 B1 g1 T1 p2 q2 B2 g2 T2,vf W D1 P1 A1 M1 p1 q1 L1 B1 G1 g1 T1∧zj T1=S1∧vf W D2 P2 A2 M2 p2 q2 L2 B2 G2 g2 T2∧zj T2=S2 ∧
  (∀ i,jz D1 P1 M1 p1 q1 G1 g1 T1 i→w0.heap.size≤i)∧(∀ i,jz D2 P2 M2 p2 q2 G2 g2 T2 i→w0.heap.size≤i)∧(∀ i,jz D1 P1 M1 p1 q1 G1 g1 T1 i→jz D2 P2 M2 p2 q2 G2 g2 T2 i→False)∧Below w0.heap.size w0 W
section
variable {w0 W W' w2:World} {D1 P1 M1 G1 D2 P2 M2 G2:Nat} {A1 A2:zG} {L1 L2:zQ} {S1 S2:zw} {k:Nat}
theorem uc.flip (h:uc w0 W D1 P1 M1 G1 A1 L1 S1 D2 P2 M2 G2 A2 L2 S2):uc w0 W D2 P2 M2 G2 A2 L2 S2 D1 P1 M1 G1 A1 L1 S1:=by
 obtain ⟨p1,q1,B1,g1,T1,p2,q2,B2,g2,T2,h1,e1,h2,e2,l1,l2,hd,hb⟩:=h
 exact ⟨p2,q2,B2,g2,T2,p1,q1,B1,g1,T1,h2,e2,h1,e1,l2,l1,fun i a b=>hd i b a,hb⟩
theorem uc.below (h:uc w0 W D1 P1 M1 G1 A1 L1 S1 D2 P2 M2 G2 A2 L2 S2):Below w0.heap.size w0 W:=by
 obtain ⟨p1,q1,B1,g1,T1,p2,q2,B2,g2,T2,h1,e1,h2,e2,l1,l2,hd,hb⟩:=h
 exact hb
theorem uc.fst (h:uc w0 W D1 P1 M1 G1 A1 L1 S1 D2 P2 M2 G2 A2 L2 S2):zo w0 W D1 P1 M1 G1 A1 L1 S1:=by
 obtain ⟨p1,q1,B1,g1,T1,p2,q2,B2,g2,T2,h1,e1,h2,e2,l1,l2,hd,hb⟩:=h
 exact ⟨p1,q1,B1,g1,T1,h1,e1,fun i hi=>⟨l1 i hi,id⟩,hb,Nat.zero_le _,fun _ f=>f.elim⟩
theorem uc.later (h:uc w0 W D1 P1 M1 G1 A1 L1 S1 D2 P2 M2 G2 A2 L2 S2) (hb:Below W.heap.size W W'):uc w0 W' D1 P1 M1 G1 A1 L1 S1 D2 P2 M2 G2 A2 L2 S2:=by
 obtain ⟨p1,q1,B1,g1,T1,p2,q2,B2,g2,T2,h1,e1,h2,e2,l1,l2,hd,h0⟩:=h
 exact ⟨p1,q1,B1,g1,T1,p2,q2,B2,g2,T2,h1.later hb,e1,h2.later hb,e2,l1,l2,hd,z8 h0 hb⟩
theorem uc.make (ha:zo w0 w2 D1 P1 M1 G1 A1 L1 S1) (hc:zo w2 W D2 P2 M2 G2 A2 L2 S2):uc w0 W D1 P1 M1 G1 A1 L1 S1 D2 P2 M2 G2 A2 L2 S2:=by
 obtain ⟨p1,q1,B1,g1,T1,h1,e1,l1,b1⟩:=ha
 have hb:=hc.below
 obtain ⟨p2,q2,B2,g2,T2,h2,e2,l2,b2⟩:=hc
 refine ⟨p1,q1,B1,g1,T1,p2,q2,B2,g2,T2,h1.later hb,e1,h2,e2,fun i hi=>(l1 i hi).1,fun i hi=>Nat.le_trans b1.1.size (l2 i hi).1,fun i hi hj=>?_,z8 b1.1 hb⟩
 have:=h1.foot_lt hi
 have:=(l2 i hj).1
 omega
theorem uc.cell11 (h:uc w0 W D1 P1 M1 G1 A1 L1 S1 D2 P2 M2 G2 A2 L2 S2) {c i:Nat} {v1 v2:Value} (hc:yj W c v1 v2) (h0:w0.heap.size≤c) (x:Value):uc w0 (W.setCell ⟨c,i,none⟩ x) D1 P1 M1 G1 A1 L1 S1 D2 P2 M2 G2 A2 L2 S2:=by
 obtain ⟨p1,q1,B1,g1,T1,p2,q2,B2,g2,T2,h1,e1,h2,e2,l1,l2,hd,hb⟩:=h
 have ht:zm (fun j=>j=c) W (W.setCell ⟨c,i,none⟩ x):=(zm.refl (fun j=>j=c) W).setCell (p:=⟨c,i,none⟩) (fun _=>rfl) x
 have hn:∀ X:TypeId,zn=X→X≠84∧X≠140∧X≠143:=fun X e=>by subst e; decide
 have f1:¬ jz D1 P1 M1 p1 q1 G1 g1 T1 c:=fun f=>by
  obtain ⟨n1,n2,n3⟩:=hn _ rfl
  rcases h1.foot_ty f hc with e | e | e
  ·
   exact n1 e
  ·
   exact n2 e
  ·
   exact n3 e
 have f2:¬ jz D2 P2 M2 p2 q2 G2 g2 T2 c:=fun f=>by
  obtain ⟨n1,n2,n3⟩:=hn _ rfl
  rcases h2.foot_ty f hc with e | e | e
  ·
   exact n1 e
  ·
   exact n2 e
  ·
   exact n3 e
 exact ⟨p1,q1,B1,g1,T1,p2,q2,B2,g2,T2,h1.kept (ht.mono fun j _ e f=>f1 (e ▸ f)),e1,h2.kept (ht.mono fun j _ e f=>f2 (e ▸ f)),e2,l1,l2,hd,hb.trans (ht.below_at hb.size (fun j e=>by omega))⟩
def DidP12 (w0:World) (D1 P1 M1 G1 D2 P2 M2 G2:Nat) (A2:zG) (L2:zQ) (S2:zw) (W:World) (T0:yi) (kd:Nat) (a b:List UInt8) (z:Bool) (N0:List (List UInt8)) (e:Ending) (w':World):Prop :=
 ∃ A L S R v vg,e=.returned (.tuple #[.agg #[v,vg],.bool true])∧uc w0 w' D1 P1 M1 G1 A L S D2 P2 M2 G2 A2 L2 S2∧zt A L S 12∧va 0 R w' v∧NmR w' vg (zb S)∧zc R=ze A L S∧zu W w'∧Ze kd a b z T0 N0 (ze A L S) (zb S)
theorem pair_do12 (R:zH W11) (v vg:Value) (kd:Nat) (a b:ByteArray) (z:Bool) (h:uc w0 W D1 P1 M1 G1 A1 L1 S1 D2 P2 M2 G2 A2 L2 S2) (hg:zt A1 L1 S1 k) (h5:ud w0) (hR:va 0 R W v) (hN:NmR W vg (zb S1)) (hp:zc R=ze A1 L1 S1) (ha:a.size≤50) (hb5:b.size≤50) :
  Calls Tryz.prog 14 #[.pointer (some ⟨D1,0,none⟩),.agg #[v,vg],.agg #[.int .u8 (kd:Int),.string a,.string b,.bool z]] W (DidP12 w0 D1 P1 M1 G1 D2 P2 M2 G2 A2 L2 S2 W (ze A1 L1 S1) kd a.data.toList b.data.toList z (zb S1)):=by
 obtain ⟨p1,q1,B1,g1,T1,p2,q2,B2,g2,T2,h1,e1,h2,e2,l1,l2,hd,hb⟩:=h
 have ho:@zo h2.fr12 w0 W D1 P1 M1 G1 A1 L1 S1:=⟨p1,q1,B1,g1,T1,h1,e1,fun i hi=>⟨l1 i hi,hd i hi⟩,hb,Nat.le_refl _,fun _ _=>rfl⟩
 refine (@VN h2.fr12 w0 D1 P1 M1 G1 A1 L1 S1 12 R v vg kd a b z W ho hg.trim (by decide) h5 hR hN hp ha hb5).mono ?_
 rintro e w' ⟨A,L,S,R',v',vg',he,hown,hgd,hr,hn,hpl,hk,_,hdd⟩
 obtain ⟨p,q,B,g,T,n1,n2,n3,n4⟩:=hown
 have ht:zm (fun i=>¬ jz D2 P2 M2 p2 q2 G2 g2 T2 i) W w':=⟨n4.1.os.trans hb.os.symm,n4.1.tape.trans hb.tape.symm,n4.1.output.trans hb.output.symm,n4.2.1,fun i _ hn=>n4.2.2 i (Classical.not_not.1 hn)⟩
 exact ⟨A,L,S,R',v',vg',he,⟨p,q,B,g,T,p2,q2,B2,g2,T2,n1,n2,h2.kept ht,e2,fun i hi=>(n3 i hi).1,l2,fun i hi=>(n3 i hi).2,n4.1⟩,hgd.trim,hr,hn,hpl,hk,hdd⟩
end
end Go.Proofs.YtmcomnocpibiiaaGreatDoor
namespace Go.Proofs.YtmcomnocpibiiaaGreatDoor
open Go.RowKit Go.Maps Go.Shelf
set_option linter.unusedVariables false

/-! ### rows of users -/
def xI:List Us→List Us→Bool
 | [],[]=>true
 | a::l,b::m=>Zn a b && xI l m
 | _,_=>false
theorem jX:∀ {l m:List Us},xI l m=true→l.length=m.length
 | [],[],_=>rfl
 | a::l,b::m,h=>by
  unfold xI at h
  rw [Bool.and_eq_true] at h
  rw [List.length_cons,List.length_cons,jX h.2]
 | [],_::_,h=>by cases h
 | _::_,[],h=>by cases h
def YSaV12 (g1 o1 g2 o2 n k c1 c2:Nat) (a1 a2:Array Value) (q:Bool):Nat→Value→World→Prop
 | 0,v,_=>v=.slice (some ⟨g1,o1,none⟩) n c1
 | 1,v,_=>v=.int .i64 k
 | 2,v,_=>v=.pointer (some ⟨g1,o1+k * 5,none⟩)
 | 3,v,_=>v=.agg a1
 | 4,v,_=>v=.slice (some ⟨g2,o2,none⟩) n c2
 | 5,v,_=>v=.int .i64 k
 | 6,v,_=>v=.pointer (some ⟨g2,o2+k * 5,none⟩)
 | 7,v,_=>v=.agg a2
 | 8,v,_=>v=.bool q
 | _,v,_=>v=.bool (!q)
theorem FB {g1 o1 g2 o2 n k c1 c2:Nat} {a1 a2:Array Value} {q:Bool} {W W':World} (j:Nat) (z:Value) (hz:YSaV12 g1 o1 g2 o2 n k c1 c2 a1 a2 q j z W):YSaV12 g1 o1 g2 o2 n k c1 c2 a1 a2 q j z W':=by
 match j,hz with
 | 0,hz=>exact hz
 | 1,hz=>exact hz
 | 2,hz=>exact hz
 | 3,hz=>exact hz
 | 4,hz=>exact hz
 | 5,hz=>exact hz
 | 6,hz=>exact hz
 | 7,hz=>exact hz
 | 8,hz=>exact hz
 | _+9,hz=>exact hz

set_option maxRecDepth 100000 in
theorem XP (A1 A2:Option Addr) (c1 c2 n:Nat) (l1 l2:List Us) (w:World) (hl1:n=l1.length) (hl2:n=l2.length) (hn:n≤1000) (h1:UT w A1 l1) (h2:UT w A2 l2) (o1:∀ u∈l1,u.Ok w) (o2:∀ u∈l2,u.Ok w) :
  Calls Tryz.prog 20 #[.slice A1 n c1,.slice A2 n c2] w (zV (xI l1 l2) w):=by
 have hnot:∀ (x:Bool) (w:World),(Op.unary .not (.bool x)).run Tryz.prog w=.ok (.bool (!x)) w:=fun _ _=>rfl
 have H1:=za h1
 have H2:=za h2
 have L1:=za hl1
 have L2:=za hl2
 have O1:=za o1
 have O2:=za o2
 obtain ⟨r,hrr⟩:∃ r,r=xI (l1.drop 0) (l2.drop 0):=⟨_,rfl⟩
 have HRR:=za hrr
 rw [show xI l1 l2=r from hrr.symm]
 clear h1 h2 hl1 hl2 o1 o2 hrr
 go_enter Tryz.func20,Tryz.ntmps20
 go_wp2
 go_loopg [5,13] n (fun gg _ s13 wr=>∃ k:Nat,k≤n∧n - k≤gg∧s13=.int .i64 k∧Hid (Below w.heap.size w wr)∧Hid (r=xI (l1.drop k) (l2.drop k)))
 case atStart=>exact ⟨0,Nat.zero_le _,by omega,rfl,Below.refl _ _,HRR.out⟩
 case round =>
  obtain ⟨k,hk,hg,rfl,HW,A0⟩:=hrel
  by_cases hlt:k<n
  ·
   have hltz:(k:Int)<(n:Int):=by omega
   have hk1:k<l1.length:=L1.out ▸ hlt
   have hk2:k<l2.length:=L2.out ▸ hlt
   obtain ⟨g1,o1,rfl,Lg1,q1⟩:=(H1.out.later HW.out) (by intro e; rw [e] at hk1; exact absurd hk1 (Nat.not_lt_zero _))
   obtain ⟨g2,o2,rfl,Lg2,q2⟩:=(H2.out.later HW.out) (by intro e; rw [e] at hk2; exact absurd hk2 (Nat.not_lt_zero _))
   have HS:Hid (∀ W,Below wr.heap.size wr W→Calls Tryz.prog 71 #[.agg #[.string l1[k].nm,.string l1[k].hs,.string l1[k].ml,.bool l1[k].dis,.slice l1[k].ga l1[k].gs.length l1[k].gc],.agg #[.string l2[k].nm,.string l2[k].hs,.string l2[k].ml,.bool l2[k].dis,.slice l2[k].ga l2[k].gs.length l2[k].gc]] W (zV (Zn l1[k] l2[k]) W)):=fun W hb=>Q7 l1[k] l2[k] W (((O1.out _ (List.getElem_mem hk1)).below HW.out).below hb) (((O2.out _ (List.getElem_mem hk2)).below HW.out).below hb)
   have hA:r=(Zn l1[k] l2[k] && xI (l1.drop (k+1)) (l2.drop (k+1))):=by
    have:=A0.out
    rw [List.drop_eq_getElem_cons hk1,List.drop_eq_getElem_cons hk2] at this
    exact this
   have HA:=za hA
   clear hA A0
   have C10:Hid (wr.cell? ⟨g1,o1+k * 5,none⟩=some (.string l1[k].nm)):=q1 k hk1 0 _ rfl
   have C11:Hid (wr.cell? ⟨g1,o1+k * 5+1,none⟩=some (.string l1[k].hs)):=q1 k hk1 1 _ rfl
   have C12:Hid (wr.cell? ⟨g1,o1+k * 5+2,none⟩=some (.string l1[k].ml)):=q1 k hk1 2 _ rfl
   have C13:Hid (wr.cell? ⟨g1,o1+k * 5+3,none⟩=some (.bool l1[k].dis)):=q1 k hk1 3 _ rfl
   have C14:Hid (wr.cell? ⟨g1,o1+k * 5+4,none⟩=some (.slice l1[k].ga l1[k].gs.length l1[k].gc)):=q1 k hk1 4 _ rfl
   have C20:Hid (wr.cell? ⟨g2,o2+k * 5,none⟩=some (.string l2[k].nm)):=q2 k hk2 0 _ rfl
   have C21:Hid (wr.cell? ⟨g2,o2+k * 5+1,none⟩=some (.string l2[k].hs)):=q2 k hk2 1 _ rfl
   have C22:Hid (wr.cell? ⟨g2,o2+k * 5+2,none⟩=some (.string l2[k].ml)):=q2 k hk2 2 _ rfl
   have C23:Hid (wr.cell? ⟨g2,o2+k * 5+3,none⟩=some (.bool l2[k].dis)):=q2 k hk2 3 _ rfl
   have C24:Hid (wr.cell? ⟨g2,o2+k * 5+4,none⟩=some (.slice l2[k].ga l2[k].gs.length l2[k].gc)):=q2 k hk2 4 _ rfl
   clear q1 q2
   generalize Zn l1[k] l2[k]=q at *
   generalize l1[k].nm=nm1 at *
   generalize l1[k].hs=hs1 at *
   generalize l1[k].ml=ml1 at *
   generalize l1[k].dis=dis1 at *
   generalize l1[k].ga=ga1 at *
   generalize l1[k].gs.length=gl1 at *
   generalize l1[k].gc=gc1 at *
   generalize l2[k].nm=nm2 at *
   generalize l2[k].hs=hs2 at *
   generalize l2[k].ml=ml2 at *
   generalize l2[k].dis=dis2 at *
   generalize l2[k].ga=ga2 at *
   generalize l2[k].gs.length=gl2 at *
   generalize l2[k].gc=gc2 at *
   go_wp2_with fail
   refine xK (by kernel_rfl) (fun W=>Below wr.heap.size wr W) (YSaV12 g1 o1 g2 o2 n k c1 c2 #[.string nm1,.string hs1,.string ml1,.bool dis1,.slice ga1 gl1 gc1] #[.string nm2,.string hs2,.string ml2,.bool dis2,.slice ga2 gl2 gc2] q) ?F ?hF (by kernel_rfl) (by kernel_rfl) (zS (Below.refl _ _)) ?step ?fin
   case hF =>
    intro x
    simp only [List.map_cons,List.map_nil,vI,Act.put,List.setIfInBounds_toArray,List.set_cons_zero,List.set_cons_succ,Nat.zero_add,Nat.reduceAdd]
    exact rfl
   case step =>
    refine ⟨?_,?_,?_,?_,?_,?_,?_,?_,?_,?_,trivial⟩
    all_goals intro x W hW hdep K hK
    ·
     clear hdep
     go_simp
     exact hK _ _ rfl hW (fun _ _ h=>h)
    ·
     clear hdep
     go_simp
     exact hK _ _ rfl hW (fun _ _ h=>h)
    ·
     have h0:x 0=_:=hdep 0 rfl
     have h1:x 1=_:=hdep 1 rfl
     clear hdep
     simp only [h0,h1] at hK
     go_simp
     exact hK _ _ rfl hW (fun _ _ h=>h)
    ·
     have h2:x 2=_:=hdep 2 rfl
     have d0:=(hW.cell (p:=⟨g1,o1+k * 5,none⟩) Lg1).trans C10.out
     have d1:=(hW.cell (p:=⟨g1,o1+k * 5+1,none⟩) Lg1).trans C11.out
     have d2:=(hW.cell (p:=⟨g1,o1+k * 5+2,none⟩) Lg1).trans C12.out
     have d3:=(hW.cell (p:=⟨g1,o1+k * 5+3,none⟩) Lg1).trans C13.out
     have d4:=(hW.cell (p:=⟨g1,o1+k * 5+4,none⟩) Lg1).trans C14.out
     clear hdep
     simp only [h2] at hK
     go_simp
     exact hK _ _ rfl hW (fun _ _ h=>h)
    ·
     clear hdep
     go_simp
     exact hK _ _ rfl hW (fun _ _ h=>h)
    ·
     clear hdep
     go_simp
     exact hK _ _ rfl hW (fun _ _ h=>h)
    ·
     have h4:x 4=_:=hdep 4 rfl
     have h5:x 5=_:=hdep 5 rfl
     clear hdep
     simp only [h4,h5] at hK
     go_simp
     exact hK _ _ rfl hW (fun _ _ h=>h)
    ·
     have h6:x 6=_:=hdep 6 rfl
     have d0:=(hW.cell (p:=⟨g2,o2+k * 5,none⟩) Lg2).trans C20.out
     have d1:=(hW.cell (p:=⟨g2,o2+k * 5+1,none⟩) Lg2).trans C21.out
     have d2:=(hW.cell (p:=⟨g2,o2+k * 5+2,none⟩) Lg2).trans C22.out
     have d3:=(hW.cell (p:=⟨g2,o2+k * 5+3,none⟩) Lg2).trans C23.out
     have d4:=(hW.cell (p:=⟨g2,o2+k * 5+4,none⟩) Lg2).trans C24.out
     clear hdep
     simp only [h6] at hK
     go_simp
     exact hK _ _ rfl hW (fun _ _ h=>h)
    ·
     have h3:x 3=_:=hdep 3 rfl
     have h7:x 7=_:=hdep 7 rfl
     clear hdep
     simp only [h3,h7] at hK
     go_simp
     refine (HS.out W hW).mono ?_
     rintro e W' ⟨rfl,hb⟩
     exact hK _ _ rfl (z8 hW hb) (fun j u hz=>FB j u hz)
    ·
     have h8:x 8=_:=hdep 8 rfl
     clear hdep
     simp only [h8] at hK
     go_simp
     exact hK _ _ rfl hW (fun _ _ h=>h)
   case fin =>
    intro x W hW hY
    have h9:x 9=.bool (!q):=hY 9 (by decide)
    have HF:=za (z8 HW.out hW)
    clear hY hW Lg1 Lg2
    rw [h9]
    cases q with
    | true =>
     have HA2:Hid (r=xI (l1.drop (k+1)) (l2.drop (k+1))):=HA.out
     clear HA
     go_wp2
     go_roundg (n - (k+1))
     case measure=>omega
     case rel=>exact ⟨k+1,by omega,by omega,by go_num,HF,HA2⟩
    | false =>
     have hr0:r=false:=HA.out
     subst hr0
     clear HA
     go_wp2
     go_ret
     exact ⟨rfl,HF.out⟩
  ·
   have hltz:¬ (k:Int)<(n:Int):=by omega
   obtain rfl:k=n:=by omega
   have hr1:r=true:=by
    have:=A0.out
    rw [List.drop_eq_nil_of_le (by have:=L1.out; omega),List.drop_eq_nil_of_le (by have:=L2.out; omega)] at this
    exact this
   subst hr1
   clear A0
   go_wp2
   go_ret
   exact ⟨rfl,HW.out⟩

set_option maxRecDepth 100000 in
theorem Zm (A1 A2:Option Addr) (c1 c2 n m:Nat) (l1 l2:List Us) (w:World) (hl1:n=l1.length) (hl2:m=l2.length) (hn:n≤1000) (hm:m≤1000) (h1:UT w A1 l1) (h2:UT w A2 l2) (o1:∀ u∈l1,u.Ok w) (o2:∀ u∈l2,u.Ok w) :
  Calls Tryz.prog 20 #[.slice A1 n c1,.slice A2 m c2] w (zV (xI l1 l2) w):=by
 by_cases h:n=m
 ·
  subst h
  exact XP A1 A2 c1 c2 n l1 l2 w hl1 hl2 hn h1 h2 o1 o2
 ·
  have hf:xI l1 l2=false:=by
   cases e:xI l1 l2
   ·
    rfl
   ·
    exact absurd (jX e) (by omega)
  have hz:((n:Int) != (m:Int))=true:=by simp; omega
  rw [hf]
  have HB:=za (Below.refl w.heap.size w)
  clear h1 h2 o1 o2 hl1 hl2 hf h
  go_enter Tryz.func20,Tryz.ntmps20
  go_wp2
  go_ret
  exact ⟨rfl,HB.out⟩
def YSm12 (D b0 m n:Nat) (p q r:Bool) (v vg:Value) (T:yi) (N:List (List UInt8)):Nat→Value→World→Prop
 | 1,u,_=>u=.int .i64 m
 | 2,u,_=>u=.pointer (some ⟨b0,0,none⟩)
 | 3,u,_=>u=v
 | 4,u,_=>u=.int .i64 n
 | 5,u,_=>u=.bool p
 | 6,u,_=>u=.bool p
 | 7,u,_=>p=true→u=.pointer (some ⟨D,0,none⟩)
 | 8,u,W=>p=true→∃ R,va 0 R W u∧zc R=T
 | 9,u,_=>p=true→u=.pointer (some ⟨b0,0,none⟩)
 | 10,u,_=>p=true→u=v
 | 11,u,_=>p=true→u=.bool q
 | 12,u,_=>u=.bool (p && q)
 | 13,u,_=>u=.bool (p && q)
 | 14,u,_=>(p && q)=true→u=.pointer (some ⟨D,0,none⟩)
 | 15,u,W=>(p && q)=true→NmR W u N
 | 16,u,_=>(p && q)=true→u=.pointer (some ⟨b0,1,none⟩)
 | 17,u,_=>(p && q)=true→u=vg
 | 18,u,_=>(p && q)=true→u=.bool r
 | 19,u,_=>u=.bool (p && q && r)
 | 20,u,_=>u=.bool (p && q && r)
 | _,u,_=>u=.pointer (some ⟨D,0,none⟩)
theorem jM {D b0 m n:Nat} {p q r:Bool} {v vg:Value} {T:yi} {N:List (List UInt8)} {W W':World} (hb:Below W.heap.size W W') (j:Nat) (u:Value) (h:YSm12 D b0 m n p q r v vg T N j u W):YSm12 D b0 m n p q r v vg T N j u W':=by
 by_cases h8:j=8
 ·
  subst h8
  intro hp
  obtain ⟨R,hr,e⟩:=(show p=true→∃ R,va 0 R W u∧zc R=T from h) hp
  exact ⟨R,hr.later hb,e⟩
 by_cases h15:j=15
 ·
  subst h15
  exact fun hp=>NmR.later ((show (p && q)=true→NmR W u N from h) hp) hb
 revert h
 unfold YSm12
 split <;> first | exact id | (exfalso; omega)
section
variable {w0 w:World} {D P M G:Nat} {A:zG} {L:zQ} {S:zw} {k:Nat}
set_option maxRecDepth 100000 in
theorem V5 (su st:Bool) (A0 A1:Option Addr) (c c1 m n n1:Nat) (ho:zo w0 w D P M G A L S) (hg:zt A L S k) (hn2:A.length=m)
  (hSU:∀ W u R1,Below w.heap.size w W→va 0 R1 W u→zc R1=ze A L S→Calls Tryz.prog 20 #[u,.slice A0 n c] W (zV su W))
  (hST:∀ W u,Below w.heap.size w W→NmR W u (zb S)→Calls Tryz.prog 25 #[u,.slice A1 n1 c1] W (zV st W)) :
  Calls Tryz.prog 15 #[.pointer (some ⟨D,0,none⟩),.agg #[.slice A0 n c,.slice A1 n1 c1]] w (zV (decide (m=n) && su && st) w):=by
 have HLN:Hid (∀ W,Below w.heap.size w W→Calls Tryz.prog 62 #[.pointer (some ⟨D,0,none⟩)] W fun e w'=>e=.returned (.int .i64 m)∧w'=W):=fun W hb=>by
  have:=ZT (ho.later hb)
  rwa [hn2] at this
 have HAL:Hid (∀ W,Below w.heap.size w W→Calls Tryz.prog 29 #[.pointer (some ⟨D,0,none⟩)] W fun e w'=>∃ v R,e=.returned v∧va 0 R w' v∧zc R=ze A L S∧Below W.heap.size W w'):=fun W hb =>
  (ZU (ho.later hb) hg).mono fun e w' ⟨v,R,he,hr,hpl,hb'⟩=>⟨v,R,he,hr.low (Nat.zero_le _),hpl,hb'⟩
 have HGR:Hid (∀ W,Below w.heap.size w W→Calls Tryz.prog 63 #[.pointer (some ⟨D,0,none⟩)] W fun e w'=>∃ v,e=.returned v∧NmR w' v (zb S)∧Below W.heap.size W w'):=fun W hb =>
  (ji (ho.later hb) hg.grp).mono fun e w' ⟨v,he,hr,hb'⟩=>⟨v,he,NmR.of hr,hb'⟩
 have HSU:=za hSU
 have HST:=za hST
 have HX:=za (zp w (.slice A0 n c) (.slice A1 n1 c1))
 have HB0:Hid (Below w.heap.size w (w.alloc (.cells #[.slice A0 n c,.slice A1 n1 c1] zn))):=z7 (Below.refl _ _) _
 clear ho hg hSU hST hn2
 generalize hT:ze A L S=T at *
 generalize hNm:zb S=N at *
 clear hT hNm
 have hlen:((m:Int) == (n:Int))=decide (m=n):=by
  rw [Bool.eq_iff_iff,beq_iff_eq,decide_eq_true_iff]
  omega
 generalize decide (m=n)=p at *
 go_enter Tryz.func15,Tryz.ntmps15
 go_wp2_with fail
 generalize w.alloc (.cells #[.slice A0 n c,.slice A1 n1 c1] zn)=w1 at *
 refine xK (by kernel_rfl) (fun W=>Below w1.heap.size w1 W) (YSm12 D w.heap.size m n p su st (.slice A0 n c) (.slice A1 n1 c1) T N) ?F ?hF (by kernel_rfl) (by kernel_rfl) (zS (Below.refl _ _)) ?step ?fin
 case hF =>
  intro x
  simp only [List.map_cons,List.map_nil,vI,Act.put,List.setIfInBounds_toArray,List.set_cons_zero,List.set_cons_succ,Nat.zero_add,Nat.reduceAdd]
  exact rfl
 case step =>
  refine ⟨?_,?_,?_,?_,?_,?_,?_,?_,?_,?_,?_,?_,?_,?_,?_,?_,?_,?_,?_,?_,?_,trivial⟩
  ·
   intro x W hR hdep K hK
   clear hdep
   go_simp
   exact hK _ _ rfl hR (fun _ _ h=>h)
  ·
   intro x W hR hdep K hK
   have h0:x 0=_:=hdep 0 rfl
   clear hdep
   simp only [h0] at hK
   go_simp
   refine (HLN.out W (z8 HB0.out hR)).mono ?_
   rintro e W' ⟨rfl,rfl⟩
   exact hK _ _ rfl hR (fun _ _ h=>h)
  ·
   intro x W hR hdep K hK
   clear hdep
   go_simp
   exact hK _ _ rfl hR (fun _ _ h=>h)
  ·
   intro x W hR hdep K hK
   have h2:x 2=_:=hdep 2 rfl
   clear hdep
   simp only [h2] at hK
   have q0:=(HX.out.later hR).c0
   go_simp
   exact hK _ _ rfl hR (fun _ _ h=>h)
  ·
   intro x W hR hdep K hK
   have h3:x 3=_:=hdep 3 rfl
   clear hdep
   simp only [h3] at hK
   go_simp
   exact hK _ _ rfl hR (fun _ _ h=>h)
  ·
   intro x W hR hdep K hK
   have h1:x 1=_:=hdep 1 rfl
   have h4:x 4=_:=hdep 4 rfl
   clear hdep
   simp only [h1,h4] at hK
   go_simp
   exact hK _ _ rfl hR (fun _ _ h=>h)
  ·
   intro x W hR hdep K hK
   have h5:x 5=_:=hdep 5 rfl
   clear hdep
   simp only [h5] at hK
   go_simp
   exact hK _ _ rfl hR (fun _ _ h=>h)
  ·
   intro x W hR hdep K hK
   have h6:x 6=_:=hdep 6 rfl
   cases p with
   | false =>
    clear hdep
    simp only [h6] at hK
    go_simp
    exact hK _ _ (fun e=>nomatch e) hR (fun _ _ h=>h)
   | true =>
   clear hdep
   simp only [h6] at hK
   go_simp
   exact hK _ _ (fun _=>rfl) hR (fun _ _ h=>h)
  ·
   intro x W hR hdep K hK
   have h6:x 6=_:=hdep 6 rfl
   have hd7:=hdep 7 rfl
   cases p with
   | false =>
    clear hdep
    simp only [h6] at hK
    go_simp
    exact hK _ _ (fun e=>nomatch e) hR (fun _ _ h=>h)
   | true =>
   have h7:x 7=_:=hd7 rfl
   clear hdep
   simp only [h6,h7] at hK
   go_simp
   refine (HAL.out W (z8 HB0.out hR)).mono ?_
   rintro e W' ⟨v,R',rfl,hr,hpl,hb⟩
   exact hK _ _ (fun _=>⟨R',hr,hpl⟩) (z8 hR hb) (fun j u h=>jM hb j u h)
  ·
   intro x W hR hdep K hK
   have h6:x 6=_:=hdep 6 rfl
   cases p with
   | false =>
    clear hdep
    simp only [h6] at hK
    go_simp
    exact hK _ _ (fun e=>nomatch e) hR (fun _ _ h=>h)
   | true =>
   clear hdep
   simp only [h6] at hK
   go_simp
   exact hK _ _ (fun _=>rfl) hR (fun _ _ h=>h)
  ·
   intro x W hR hdep K hK
   have h6:x 6=_:=hdep 6 rfl
   have hd9:=hdep 9 rfl
   cases p with
   | false =>
    clear hdep
    simp only [h6] at hK
    go_simp
    exact hK _ _ (fun e=>nomatch e) hR (fun _ _ h=>h)
   | true =>
   have h9:x 9=_:=hd9 rfl
   clear hdep
   simp only [h6,h9] at hK
   have q0:=(HX.out.later hR).c0
   go_simp
   exact hK _ _ (fun _=>rfl) hR (fun _ _ h=>h)
  ·
   intro x W hR hdep K hK
   have hA:p=true→∃ R,va 0 R W (x 8)∧zc R=T:=hdep 8 rfl
   have h6:x 6=_:=hdep 6 rfl
   have hd10:=hdep 10 rfl
   cases p with
   | false =>
    clear hdep
    simp only [h6] at hK
    go_simp
    exact hK _ _ (fun e=>nomatch e) hR (fun _ _ h=>h)
   | true =>
   obtain ⟨R1,h8,e8⟩:=hA rfl
   have h10:x 10=_:=hd10 rfl
   clear hdep
   simp only [h6,h10] at hK
   go_simp
   refine (HSU.out W _ R1 (z8 HB0.out hR) h8 e8).mono ?_
   rintro e W' ⟨rfl,hb⟩
   exact hK _ _ (fun _=>rfl) (z8 hR hb) (fun j u h=>jM hb j u h)
  ·
   intro x W hR hdep K hK
   have h6:x 6=_:=hdep 6 rfl
   have hd11:=hdep 11 rfl
   cases p with
   | false =>
    clear hdep
    simp only [h6] at hK
    go_simp
    exact hK _ _ rfl hR (fun _ _ h=>h)
   | true =>
   have h11:x 11=_:=hd11 rfl
   clear hdep
   simp only [h6,h11] at hK
   go_simp
   exact hK _ _ rfl hR (fun _ _ h=>h)
  ·
   intro x W hR hdep K hK
   have h12:x 12=_:=hdep 12 rfl
   clear hdep
   simp only [h12] at hK
   go_simp
   exact hK _ _ rfl hR (fun _ _ h=>h)
  ·
   intro x W hR hdep K hK
   have h13:x 13=_:=hdep 13 rfl
   generalize hpq:(p && su)=pq at *
   cases pq with
   | false =>
    clear hdep
    simp only [h13] at hK
    go_simp
    exact hK _ _ (fun e=>nomatch hpq.symm.trans e) hR (fun _ _ h=>h)
   | true =>
   clear hdep
   simp only [h13] at hK
   go_simp
   exact hK _ _ (fun _=>rfl) hR (fun _ _ h=>h)
  ·
   intro x W hR hdep K hK
   have h13:x 13=_:=hdep 13 rfl
   have hd14:=hdep 14 rfl
   generalize hpq:(p && su)=pq at *
   cases pq with
   | false =>
    clear hdep
    simp only [h13] at hK
    go_simp
    exact hK _ _ (fun e=>nomatch hpq.symm.trans e) hR (fun _ _ h=>h)
   | true =>
   have h14:x 14=_:=hd14 hpq
   clear hdep
   simp only [h13,h14] at hK
   go_simp
   refine (HGR.out W (z8 HB0.out hR)).mono ?_
   rintro e W' ⟨v,rfl,hr,hb⟩
   exact hK _ _ (fun _=>hr) (z8 hR hb) (fun j u h=>jM hb j u h)
  ·
   intro x W hR hdep K hK
   have h13:x 13=_:=hdep 13 rfl
   generalize hpq:(p && su)=pq at *
   cases pq with
   | false =>
    clear hdep
    simp only [h13] at hK
    go_simp
    exact hK _ _ (fun e=>nomatch hpq.symm.trans e) hR (fun _ _ h=>h)
   | true =>
   clear hdep
   simp only [h13] at hK
   go_simp
   exact hK _ _ (fun _=>rfl) hR (fun _ _ h=>h)
  ·
   intro x W hR hdep K hK
   have h13:x 13=_:=hdep 13 rfl
   have hd16:=hdep 16 rfl
   generalize hpq:(p && su)=pq at *
   cases pq with
   | false =>
    clear hdep
    simp only [h13] at hK
    go_simp
    exact hK _ _ (fun e=>nomatch hpq.symm.trans e) hR (fun _ _ h=>h)
   | true =>
   have h16:x 16=_:=hd16 hpq
   clear hdep
   simp only [h13,h16] at hK
   have q1:=(HX.out.later hR).c1
   go_simp
   exact hK _ _ (fun _=>rfl) hR (fun _ _ h=>h)
  ·
   intro x W hR hdep K hK
   have hd15:=hdep 15 rfl
   have h13:x 13=_:=hdep 13 rfl
   have hd17:=hdep 17 rfl
   generalize hpq:(p && su)=pq at *
   cases pq with
   | false =>
    clear hdep
    simp only [h13] at hK
    go_simp
    exact hK _ _ (fun e=>nomatch hpq.symm.trans e) hR (fun _ _ h=>h)
   | true =>
   have h15:NmR W (x 15) N:=hd15 hpq
   have h17:x 17=_:=hd17 hpq
   clear hdep
   simp only [h13,h17] at hK
   go_simp
   refine (HST.out W _ (z8 HB0.out hR) h15).mono ?_
   rintro e W' ⟨rfl,hb⟩
   exact hK _ _ (fun _=>rfl) (z8 hR hb) (fun j u h=>jM hb j u h)
  ·
   intro x W hR hdep K hK
   have h13:x 13=_:=hdep 13 rfl
   have hd18:=hdep 18 rfl
   generalize hpq:(p && su)=pq at *
   cases pq with
   | false =>
    clear hdep
    simp only [h13] at hK
    go_simp
    exact hK _ _ (show _=Value.bool (p && su && st) by rw [hpq]; rfl) hR (fun _ _ h=>h)
   | true =>
   have h18:x 18=_:=hd18 hpq
   clear hdep
   simp only [h13,h18] at hK
   go_simp
   exact hK _ _ (show _=Value.bool (p && su && st) by rw [hpq]; rfl) hR (fun _ _ h=>h)
  ·
   intro x W hR hdep K hK
   have h19:x 19=_:=hdep 19 rfl
   clear hdep
   simp only [h19] at hK
   go_simp
   exact hK _ _ rfl hR (fun _ _ h=>h)
 case fin =>
  intro x W hW hY
  have h20:x 20=_:=hY 20 (by decide)
  have HBE:=za (z8 HB0.out hW)
  clear hY hW HLN HAL HGR HSU HST HX
  rw [h20]
  go_wp2
  go_ret
  exact ⟨rfl,HBE.out⟩
end

/-! ### texts -/
set_option maxRecDepth 100000 in
theorem samet12_eq (v1 v2:Value) (N1 N2:List (List UInt8)) (w:World) (h1:NmR w v1 N1) (h2:NmR w v2 N2) (h12:N1.length≤1000) (hl:N1.length=N2.length):Calls Tryz.prog 25 #[v1,v2] w (zV (decide (N1=N2)) w):=by
 obtain ⟨A1,c1,rfl⟩:=h1.shape
 obtain ⟨A2,c2,rfl⟩:=h2.shape
 have HC1:=za h1
 have HC2:=za h2
 clear h1 h2
 obtain ⟨n,hln⟩:∃ n,n=N1.length:=⟨_,rfl⟩
 have hln2:n=N2.length:=hln.trans hl
 rw [← hln] at HC1 h12 ⊢
 rw [← hln2] at HC2 ⊢
 have HL:=za hln
 have HL2:=za hln2
 clear hln hln2 hl
 obtain ⟨r,hr⟩:∃ r,r=decide (N1=N2):=⟨_,rfl⟩
 rw [← hr]
 have HRS:=za hr
 clear hr
 go_enter Tryz.func25,Tryz.ntmps25
 go_wp2
 go_loopg [5,13] n (fun gg _ s13 wr=>∃ k:Nat,k≤n∧n - k≤gg∧s13=.int .i64 k∧Hid (Below w.heap.size w wr)∧Hid (∀ j,j<k→N1[j]? = N2[j]?))
 case atStart=>exact ⟨0,Nat.zero_le _,by omega,rfl,Below.refl _ _,fun j hj=>absurd hj (Nat.not_lt_zero _)⟩
 case round =>
  obtain ⟨k,hk,hg,rfl,HW,HE⟩:=hrel
  by_cases hlt:k<n
  ·
   have hltz:(k:Int)<(n:Int):=by omega
   have hkl:k<N1.length:=HL.out ▸ hlt
   have hkl2:k<N2.length:=HL2.out ▸ hlt
   obtain ⟨g1,d1,f1,e1⟩:=(HC1.out.later HW.out).at_ hkl
   obtain ⟨g2,d2,f2,e2⟩:=(HC2.out.later HW.out).at_ hkl2
   injection f1 with f1 f1n f1c
   injection f2 with f2 f2n f2c
   subst f1 f2
   clear f1n f1c f2n f2c
   by_cases he:N1[k]=N2[k]
   ·
    have HE2:Hid (∀ j,j<k+1→N1[j]? = N2[j]?):=fun j hj=>by
     rcases Nat.lt_or_eq_of_le (Nat.le_of_lt_succ hj) with h | rfl
     ·
      exact HE.out j h
     ·
      rw [List.getElem?_eq_getElem hkl,List.getElem?_eq_getElem hkl2,he]
    rw [he] at e1
    clear he HE
    generalize zF N2[k]=s at *
    have n1:(s.toList != s.toList)=false:=by simp
    have n2:(s.toList == s.toList)=true:=by simp
    go_wp2
    go_quiet (fail)
    go_wp2
    go_roundg (n - (k+1))
    case measure=>omega
    case rel=>exact ⟨k+1,by omega,by omega,by go_num,zr HW.out _,HE2⟩
   ·
    have hr0:r=false:=by
     rw [HRS.out]
     refine decide_eq_false fun e=>he ?_
     subst e
     rfl
    subst hr0
    have n2:((zF N1[k]).toList == (zF N2[k]).toList)=false:=by
     rw [Lib.toList_data,Lib.toList_data,zv,zv]
     simpa using he
    have n1:((zF N1[k]).toList != (zF N2[k]).toList)=true:=by rw [bne,n2]; rfl
    clear he HE HRS
    generalize zF N1[k]=s1 at *
    generalize zF N2[k]=s2 at *
    have HBW:=za (zr HW.out 1)
    go_wp2
    go_quiet (fail)
    go_wp2
    go_ret
    exact ⟨rfl,zr HW.out _⟩
  ·
   have hltz:¬ (k:Int)<(n:Int):=by omega
   obtain rfl:k=n:=by omega
   have hr1:r=true:=by
    rw [HRS.out]
    refine decide_eq_true (List.ext_getElem? fun j=>?_)
    by_cases hj:j<k
    ·
     exact HE.out j hj
    ·
     have a:=HL.out
     have b:=HL2.out
     rw [List.getElem?_eq_none (by omega),List.getElem?_eq_none (by omega)]
   subst hr1
   clear HRS HE
   go_wp2
   go_ret
   exact ⟨rfl,HW.out⟩
set_option maxRecDepth 100000 in
theorem U8 (v1 v2:Value) (N1 N2:List (List UInt8)) (w:World) (h1:NmR w v1 N1) (h2:NmR w v2 N2) (h12:N1.length≤1000) (h13:N2.length≤1000):Calls Tryz.prog 25 #[v1,v2] w (zV (decide (N1=N2)) w):=by
 by_cases hl:N1.length=N2.length
 ·
  exact samet12_eq v1 v2 N1 N2 w h1 h2 h12 hl
 ·
  have hf:decide (N1=N2)=false:=decide_eq_false fun e=>hl (by rw [e])
  rw [hf]
  obtain ⟨A1,c1,rfl⟩:=h1.shape
  obtain ⟨A2,c2,rfl⟩:=h2.shape
  generalize N1.length=n at *
  generalize N2.length=m at *
  have hz:((n:Int) != (m:Int))=true:=by simp; omega
  have HB:=za (Below.refl w.heap.size w)
  clear h1 h2 hl hf
  go_enter Tryz.func25,Tryz.ntmps25
  go_wp2
  go_ret
  exact ⟨rfl,HB.out⟩

/-! ### users in rows -/
noncomputable instance decU12:DecidableEq U11:=fun a b=>Classical.propDecidable (a=b)
noncomputable instance decT12:DecidableEq yi:=fun a b=>Classical.propDecidable (a=b)
theorem us11_u12 (x y:List UInt8×W11):Zn (Yu x) (Yu y)=decide (x.1=y.1∧x.2.u=y.2.u):=by
 obtain ⟨n1,⟨a1,b1,d1,g1,s1,t1⟩⟩:=x
 obtain ⟨n2,⟨a2,b2,d2,g2,s2,t2⟩⟩:=y
 have hb:∀ p q:ByteArray,p.data.toList=q.data.toList↔p=q:=fun p q=>⟨fun h=>by rw [← yO p,← yO q,h],fun h=>by rw [h]⟩
 have ht:∀ p q:List UInt8,zF p=zF q↔p=q:=fun p q=>⟨fun h=>by rw [← zv p,← zv q,h],fun h=>by rw [h]⟩
 have hm:s1.map zF=s2.map zF↔s1=s2:=⟨fun h=>by
  have:=congrArg (List.map fun x:ByteArray=>x.data.toList) h
  rw [List.map_map,List.map_map] at this
  have hi:((fun x:ByteArray=>x.data.toList) ∘ zF)=id:=funext fun x=>zv x
  rwa [hi,List.map_id,List.map_id] at this,fun h=>by rw [h]⟩
 rw [Bool.eq_iff_iff,decide_eq_true_iff]
 unfold Zn Yu W11.u
 simp only [Bool.and_eq_true,decide_eq_true_iff,U11.mk.injEq,hb,ht,hm]
 exact ⟨fun ⟨⟨⟨⟨h1,h2⟩,h3⟩,h4⟩,h5⟩=>⟨h1,h2,h3,h4,h5⟩,fun ⟨h1,h2,h3,h4,h5⟩=>⟨⟨⟨⟨h1,h2⟩,h3⟩,h4⟩,h5⟩⟩
theorem FJ:∀ R1 R2:zH W11,xI (R1.map Yu) (R2.map Yu)=decide ((zc R1:yi)=zc R2)
 | [],[]=>by simp [xI,zc]
 | [],_::_=>by simp [xI,zc]
 | _::_,[]=>by simp [xI,zc]
 | x::R1,y::R2=>by
  have h:=FJ R1 R2
  show (Zn (Yu x) (Yu y) && xI (R1.map Yu) (R2.map Yu))=_
  rw [h,us11_u12,Bool.eq_iff_iff,Bool.and_eq_true,decide_eq_true_iff,decide_eq_true_iff,decide_eq_true_iff]
  show _↔(x.1,x.2.u)::zc R1=(y.1,y.2.u)::zc R2
  rw [List.cons.injEq,Prod.mk.injEq]
section
variable {w0 w:World} {D P M G:Nat} {A:zG} {L:zQ} {S:zw} {k:Nat}
theorem lsame12_calls {R2:zH W11} {v vg:Value} {T2:yi} {N2:List (List UInt8)} (ho:zo w0 w D P M G A L S) (hg:zt A L S k) (hR:va 0 R2 w v) (hN:NmR w vg N2) (hp:zc R2=T2) (hsh2:FD T2) (hN2:N2.length≤1000) :
  Calls Tryz.prog 15 #[.pointer (some ⟨D,0,none⟩),.agg #[v,vg]] w (zV (decide (ze A L S=T2∧zb S=N2)) w):=by
 have hsh:=short11 hg
 obtain ⟨A0,c,rfl⟩:=hR.rw.us.shape
 obtain ⟨A1,c1,rfl⟩:=hN.shape
 have ok:∀ (W:World) (R:zH W11) (T:yi),zc R=T→FD T→qe 0 W R→∀ u∈R.map Yu,u.Ok W:=fun W R T e hs hg u hu=>by
  obtain ⟨q,hq,rfl⟩:=List.mem_map.1 hu
  have hm:(q.1,q.2.u)∈T:=by rw [← e]; exact List.mem_map.2 ⟨q,hq,rfl⟩
  have a2:=hs.hs _ hm
  have a3:=hs.ml _ hm
  exact us11_ok (hg q hq) (hs.nm _ hm) (by rw [← zx]; exact a2) (by rw [← zx]; exact a3) (hs.gs _ hm)
 have e2:R2.length=T2.length:=by rw [← hp,uq]
 have f2:=hsh2.few
 have f1:=hg.few
 have hS:zb S=zb S:=rfl
 have gl:(zb S).length≤1000:=by rw [yA]; have:=hg.grp.few; omega
 have h:=V5 (decide (ze A L S=T2)) (decide (zb S=N2)) A0 A1 c c1 A.length R2.length N2.length ho hg rfl (fun W u R1 hb hR1 hp1=>by
  obtain ⟨B1,d1,rfl⟩:=hR1.rw.us.shape
  have r1:=(JD hR1.rw.us).2
  have r2:=(JD (hR.later hb).rw.us).2
  have l1:R1.length=A.length:=by rw [← uq,hp1,ui]
  have:=Zm B1 A0 d1 c R1.length R2.length (R1.map Yu) (R2.map Yu) W (by simp) (by simp) (by omega) (by omega) r1 r2 (ok W R1 _ hp1 hsh hR1.2) (ok W R2 _ hp hsh2 (hR.later hb).2)
  rwa [FJ,hp1,hp] at this) (fun W u hb hN1=>U8 u _ _ _ W hN1 (hN.later hb) gl hN2)
 have e:(decide (A.length=R2.length) && decide (ze A L S=T2) && decide (zb S=N2))=decide (ze A L S=T2∧zb S=N2):=by
  rw [Bool.eq_iff_iff]
  simp only [Bool.and_eq_true,decide_eq_true_iff]
  refine ⟨fun h=>⟨h.1.2,h.2⟩,fun h=>⟨⟨?_,h.1⟩,h.2⟩⟩
  rw [e2,← h.1,ui]
 rwa [e] at h
end
end Go.Proofs.YtmcomnocpibiiaaGreatDoor
