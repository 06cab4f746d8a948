/-
  The texts that the laws of this seat share, part 8: what the code and the document's own answers tell, walked function by function.
  Conditions: each theorem's own.
-/
import Derived.Test.YthmomkjingcbiaaGreatDoorMigDBG
set_option maxHeartbeats 16000000
namespace Go.Proofs.YthmomkjingcbiaaGreatDoor
open Go.RowKit Go.Maps Go.Sort Go.Shelf

structure W11 where
 hs:ByteArray
 ml:ByteArray
 dis:Bool
 ga:Option Addr
 gs:List (List UInt8)
 gc:Nat
def W11.u (x:W11):U11:=⟨x.hs.data.toList,x.ml.data.toList,x.dis,x.gs⟩
def fa (q:List UInt8×W11):List Value:=[.string (zI q.1),.string q.2.hs,.string q.2.ml,.bool q.2.dis,.slice q.2.ga q.2.gs.length q.2.gc]
theorem cu11_at (L:zL W11) (j i:Nat) (hj:j<L.length) (hi:i<5):(L.flatMap fa)[j * 5+i]? = (fa L[j])[i]? := by
 induction L generalizing j with
 | nil=>exact absurd hj (Nat.not_lt_zero _)
 | cons q L ih =>
  rw [List.flatMap_cons]
  cases j with
  | zero =>
   rw [List.getElem?_append_left (by simp [fa]; omega)]
   simp
  | succ j =>
   rw [List.getElem?_append_right (by simp [fa]; omega)]
   have:=ih j (by simpa using hj)
   rw [show (j+1) * 5+i - (fa q).length=j * 5+i by simp [fa]; omega,this]
   simp
theorem qw:(Tryz.prog.info? 47).map (fun i=>(i.zero,i.size,i.bytes))=some (some (.agg #[.string ⟨#[]⟩,.string ⟨#[]⟩,.string ⟨#[]⟩,.bool false,.slice none 0 0]),5,80):=by kernel_rfl

def fA (w:World) (v:Value) (L:zL W11):Prop:=∃ A c,v=.slice A L.length c∧∀ j (h:j<L.length),∃ g,A=some ⟨g,0,none⟩∧∀ i u,(fa L[j])[i]? = some u→w.cell? ⟨g,j * 5+i,none⟩=some u
theorem fA.later {w w':World} {v:Value} {L:zL W11} (h:fA w v L) (hb:Below w.heap.size w w'):fA w' v L:=by
 obtain ⟨A,c,e,hc⟩:=h
 exact ⟨A,c,e,fun j hj=>by obtain ⟨g,e,h⟩:=hc j hj; exact ⟨g,e,fun i u hu=>(hb.cell (p:=⟨g,j * 5+i,none⟩) (World.block_lt_of_cell? w _ (h i u hu))).trans (h i u hu)⟩⟩
theorem fA.of_users {w:World} {base:Nat} {v:Value} {L:zL W11} (h:w.ownsRow base 47 5 v L.length (L.flatMap fa)):fA w v L:=by
 have hs:∃ A c,v=.slice A L.length c:=by
  rcases h.2 with ⟨rfl,h0⟩ | ⟨g,cap,cur,rfl,_⟩
  ·
   exact ⟨none,0,by rw [h0]⟩
  ·
   exact ⟨_,_,rfl⟩
 obtain ⟨A,c,rfl⟩:=hs
 refine ⟨A,c,rfl,fun j hj=>?_⟩
 rcases h.2 with ⟨_,h0⟩ | ⟨g,cap,cur,e1,_⟩
 ·
  omega
 ·
  injection e1 with e1
  subst e1
  refine ⟨g,rfl,fun i u hu=>?_⟩
  have hi:i<5:=(List.getElem?_eq_some_iff.1 hu).1
  have:=World.ownsRow.cells h (g:=g) rfl (j * 5+i) u (by rw [cu11_at L j i hj hi]; exact hu)
  rw [Addr.add_lit,Nat.zero_add] at this
  exact this
theorem Ys {x:List UInt8×W11}:∀ {D:zL W11},(∀ y∈D,bytesBefore x.1 y.1=false)→Zd x D=D++[x]
 | [],_=>rfl
 | y::r,h=>by
  unfold Zd
  rw [h y (by simp),Ys (fun z hz=>h z (by simp [hz]))]
  simp
theorem QZ {x v:List UInt8×W11}:∀ {D:zL W11},(∃ y∈D,bytesBefore x.1 y.1=true)→Zd x (D++[v])=Zd x D++[v]
 | [],h=>by obtain ⟨_,h,_⟩:=h; cases h
 | y::r,h=>by
  show Zd x (y::(r++[v]))=_
  unfold Zd
  cases hb:bytesBefore x.1 y.1
  ·
   have:∃ z∈r,bytesBefore x.1 z.1=true:=by
    obtain ⟨z,hz,hzb⟩:=h
    rcases List.mem_cons.1 hz with rfl | hz
    ·
     rw [hb] at hzb; cases hzb
    ·
     exact ⟨z,hz,hzb⟩
   simp [QZ this]
  ·
   simp
theorem Xk {x v:List UInt8×W11}:∀ {D:zL W11},(∀ y∈D,bytesBefore x.1 y.1=false)→bytesBefore x.1 v.1=true→Zd x (D++[v])=D++[x,v]
 | [],_,hv=>by simp [Zd,hv]
 | y::r,h,hv=>by
  show Zd x (y::(r++[v]))=_
  unfold Zd
  rw [h y (by simp),Xk (fun z hz=>h z (by simp [hz])) hv]
  simp

def jZ (L:zL W11) (n:List UInt8) (k:Nat):Bool:=(L.take k).any fun v=>!bytesBefore v.1 n
def Un (L:zL W11) (n:List UInt8) (h:W11) (k:Nat):zL W11:=if jZ L n k then Zd (n,h) (yu (L.take k) n) else yu (L.take k) n

theorem rise_takeV {L:zL W11} (hr:zA L) {k:Nat} (hk:k<L.length):∀ y∈L.take k,bytesBefore y.1 L[k].1=true:=by
 intro y hy
 obtain ⟨j,hj,rfl⟩:=List.getElem_of_mem hy
 rw [List.getElem_take]
 exact List.pairwise_iff_getElem.1 hr j k _ hk (by simp at hj; omega)
theorem VT {L:zL W11} {n:List UInt8} {k:Nat} (hk:k<L.length):jZ L n (k+1)=(jZ L n k || !bytesBefore L[k].1 n):=by
 unfold jZ
 rw [List.take_succ_eq_append_getElem hk,List.any_append]
 simp
theorem Jl (P:zL W11) (v:List UInt8×W11) (n:List UInt8):yu (P++[v]) n=yu P n++if v.1=n then [] else [v]:=by
 unfold yu
 rw [List.filter_append]
 by_cases e:v.1=n <;> simp [e]
theorem outV_step {L:zL W11} (hr:zA L) {n:List UInt8} {h:W11} {k:Nat} (hk:k<L.length) :
  (jZ L n k=false→bytesBefore L[k].1 n=true→Un L n h (k+1)=Un L n h k++[L[k]]∧L[k].1≠n) ∧
  (jZ L n k=false→bytesBefore L[k].1 n=false→L[k].1=n→Un L n h (k+1)=Un L n h k++[(n,h)]) ∧
  (jZ L n k=false→bytesBefore L[k].1 n=false→L[k].1≠n→Un L n h (k+1)=Un L n h k++[(n,h)]++[L[k]]) ∧
  (jZ L n k=true→Un L n h (k+1)=Un L n h k++[L[k]]∧L[k].1≠n∧bytesBefore L[k].1 n=false):=by
 have hup:=rise_takeV hr hk
 have hst:=VT (n:=n) hk
 have hdl:yu (L.take (k+1)) n=yu (L.take k) n++if L[k].1=n then [] else [L[k]]:=by rw [List.take_succ_eq_append_getElem hk,Jl]
 have hno:jZ L n k=false→∀ y∈yu (L.take k) n,bytesBefore n y.1=false:=fun hd y hy=>by
  have hy':=(yn.1 hy).1
  unfold jZ at hd
  have:=List.any_eq_false.1 hd y hy'
  have hb:bytesBefore y.1 n=true:=by simpa using this
  exact yq hb
 refine ⟨fun hd hb=>?_,fun hd hb e=>?_,fun hd hb e=>?_,fun hd=>?_⟩
 ·
  have hne:=vb hb
  refine ⟨?_,hne⟩
  unfold Un
  rw [hst,hd,hb,hdl,if_neg hne]
  simp
 ·
  unfold Un
  rw [hst,hd,hb,hdl,if_pos e,List.append_nil]
  simp [Ys (x:=(n,h)) (hno hd)]
 ·
  have hlt:bytesBefore n L[k].1=true:=by
   rcases WideAt.bytes_total L[k].1 n e with h' | h'
   ·
    rw [hb] at h'; cases h'
   ·
    exact h'
  unfold Un
  rw [hst,hd,hb,hdl,if_neg e]
  simp [Xk (x:=(n,h)) (v:=L[k]) (hno hd) hlt]
 ·
  obtain ⟨y,hy,hyb⟩:=List.any_eq_true.1 (show (L.take k).any (fun v=>!bytesBefore v.1 n)=true from hd)
  have hyb':bytesBefore y.1 n=false:=by simpa using hyb
  have hlt:bytesBefore n L[k].1=true:=by
   by_cases e:y.1=n
   ·
    rw [← e]; exact hup y hy
   ·
    rcases WideAt.bytes_total y.1 n e with h' | h'
    ·
     rw [hyb'] at h'; cases h'
    ·
     exact WideShapes.bytes_trans _ _ _ h' (hup y hy)
  have hne:L[k].1≠n:=fun e=>(vb hlt) e.symm
  refine ⟨?_,hne,yq hlt⟩
  unfold Un
  rw [hst,hd,hdl,if_neg hne]
  simp only [Bool.true_or,if_true]
  by_cases hs:∃ y∈yu (L.take k) n,bytesBefore (n,h).1 y.1=true
  ·
   exact QZ hs
  ·
   have hs':∀ y∈yu (L.take k) n,bytesBefore (n,h).1 y.1=false:=fun y hy=>by
    cases hb:bytesBefore (n,h).1 y.1
    ·
     rfl
    ·
     exact absurd ⟨y,hy,hb⟩ hs
   rw [Xk hs' hlt,Ys hs']
   simp
theorem outV_end {L:zL W11} (n:List UInt8) (h:W11):zP L n h=if jZ L n L.length then Un L n h L.length else Un L n h L.length++[(n,h)]:=by
 unfold Un zP
 rw [List.take_length]
 cases hd:jZ L n L.length
 ·
  simp only [Bool.false_eq_true,if_false]
  refine Ys fun y hy=>?_
  unfold jZ at hd
  rw [List.take_length] at hd
  have hb:bytesBefore y.1 n=true:=by simpa using List.any_eq_false.1 hd y (yn.1 hy).1
  exact yq hb
 ·
  simp
theorem Fg (L:zL W11) (n:List UInt8) (h:W11) (k:Nat):(Un L n h k).length≤L.length+1:=by
 have h1:(yu (L.take k) n).length≤L.length:=Nat.le_trans (List.length_filter_le _ _) (by simp; omega)
 unfold Un
 split
 ·
  rw [qQ]; omega
 ·
  omega

def vP (L:zL W11) (w:World) (v:Value):Prop:=w.ownsRow 0 47 5 v L.length (L.flatMap fa)
theorem vP.us {L:zL W11} {w:World} {v:Value} (h:vP L w v):fA w v L:=fA.of_users (base:=0) h
theorem vr {w w':World} {b:Nat} {e size n:Nat} {v:Value} {xs:List Value} (h:w.ownsRow b e size v n xs) (hk:zu w w') (h1:e≠108) (h2:e≠164) (h3:e≠167):w'.ownsRow b e size v n xs:=by
 refine ⟨h.1,?_⟩
 rcases h.2 with hn | ⟨g,cap,cur,e1,h0,hg,hr⟩
 ·
  exact .inl hn
 ·
  exact .inr ⟨g,cap,cur,e1,h0,hk g _ _ _ hg h1 h2 h3,hr⟩
theorem vP.keeps {L:zL W11} {w w':World} {v:Value} (h:vP L w v) (hk:zu w w'):vP L w' v:=vr h hk (by decide) (by decide) (by decide)
theorem vP.later {L:zL W11} {w w':World} {v:Value} (h:vP L w v) (hb:Below w.heap.size w w'):vP L w' v:=h.keeps (zu.of_below hb)
theorem vP.of_own {L:zL W11} {w:World} {b:Nat} {v:Value} (h:w.ownsRow b 47 5 v L.length (L.flatMap fa)):vP L w v:=zC h (Nat.zero_le _)
theorem vP.nil (w:World):vP [] w (.slice none 0 0):=World.ownsRow_nil _ _ _ _
theorem fA.at_ {w:World} {A:Option Addr} {c n:Nat} {L:zL W11} (h:fA w (.slice A n c) L) (k:Nat) (hk:k<L.length) :
  ∃ g,A=some ⟨g,0,none⟩∧w.cell? ⟨g,k * 5,none⟩=some (.string (zI L[k].1))∧w.cell? ⟨g,k * 5+1,none⟩=some (.string L[k].2.hs)∧w.cell? ⟨g,k * 5+2,none⟩=some (.string L[k].2.ml)∧w.cell? ⟨g,k * 5+3,none⟩=some (.bool L[k].2.dis)∧w.cell? ⟨g,k * 5+4,none⟩=some (.slice L[k].2.ga L[k].2.gs.length L[k].2.gc):=by
 obtain ⟨A',c',e,hc⟩:=h
 injection e with e1 e2 e3
 obtain ⟨g,eg,hcell⟩:=hc k hk
 exact ⟨g,by rw [e1,eg],hcell 0 _ rfl,hcell 1 _ rfl,hcell 2 _ rfl,hcell 3 _ rfl,hcell 4 _ rfl⟩
theorem fA.shape {w:World} {v:Value} {L:zL W11} (h:fA w v L):∃ A c,v=.slice A L.length c:=by
 obtain ⟨A,c,e,_⟩:=h
 exact ⟨A,c,e⟩
theorem tx11_ne {a:List UInt8} {s:ByteArray} (h:a≠s.data.toList):¬ (zI a).toList=s.toList:=by
 rw [Lib.toList_data,Lib.toList_data,zy]; exact h
theorem tx11_eq {a:List UInt8} {s:ByteArray} (h:a=s.data.toList):zI a=s:=by rw [h,xo]

def ZK (L:zL W11) (n:List UInt8) (w:World) (e:Ending) (w':World):Prop :=
 ∃ r:Int,e=.returned (.int .i64 r)∧((zx L n=false∧r=-1)∨(zx L n=true∧∃ i:Nat,∃ h:i<L.length,r=i∧L[i].1=n))∧Below w.heap.size w w'

set_option maxRecDepth 100000 in
theorem qN (A:Option Addr) (c n:Nat) (L:zL W11) (s:ByteArray) (w:World) (hn:n=L.length) (h12:n≤12) (hu:fA w (.slice A n c) L) :
  Calls Tryz.prog 216 #[.slice A n c,.string s] w (ZK L s.data.toList w):=by
 have HU:=za hu
 have HL:=za hn
 clear hu hn
 go_enter Tryz.func216,Tryz.ntmps216
 go_wp2
 go_loopg [5,6,9] n (fun gg _ _ s9 wr=>∃ k:Nat,k≤n∧n - k≤gg∧s9=.int .i64 k∧Hid (Below w.heap.size w wr)∧Hid (∀ j (h:j<L.length),j<k→L[j].1≠s.data.toList))
 case atStart=>exact ⟨0,Nat.zero_le _,by omega,rfl,Below.refl _ _,fun j _ hj=>absurd hj (Nat.not_lt_zero _)⟩
 case round =>
  obtain ⟨k,hk,hg,rfl,HW,A0⟩:=hrel
  by_cases hlt:k<n
  ·
   have hltz:(k:Int)<(n:Int):=by omega
   have hkl:k<L.length:=HL.out ▸ hlt
   obtain ⟨g,rfl,c0,c1,c2,c3,c4⟩:=(HU.out.later HW.out).at_ k hkl
   have HB:=za (z8 HW.out (z7 (Below.refl wr.heap.size wr) (.cells #[.string (zI L[k].1),.string L[k].2.hs,.string L[k].2.ml,.bool L[k].2.dis,.slice L[k].2.ga L[k].2.gs.length L[k].2.gc] 47)))
   by_cases he:L[k].1=s.data.toList
   ·
    have hs:zI L[k].1=s:=tx11_eq he
    have n2:(s.toList == s.toList)=true:=by simp
    have HR:Hid (ZK L s.data.toList w (.returned (.int .i64 (k:Int))) (wr.alloc (.cells #[.string s,.string L[k].2.hs,.string L[k].2.ml,.bool L[k].2.dis,.slice L[k].2.ga L[k].2.gs.length L[k].2.gc] 47))):=by
     rw [hs] at HB
     exact ⟨_,rfl,.inr ⟨xT.2 ⟨L[k],List.getElem_mem hkl,he⟩,k,hkl,rfl,he⟩,HB.out⟩
    rw [hs] at c0
    clear he hs HB A0
    generalize L[k].2.hs=sh at *
    generalize L[k].2.ml=sm at *
    generalize L[k].2.dis=sd at *
    generalize L[k].2.ga=sa at *
    generalize L[k].2.gs.length=sn at *
    generalize L[k].2.gc=sc at *
    go_wp2
    go_ret
    exact HR.out
   ·
    have n1:=tx11_ne he
    have n2:((zI L[k].1).toList == s.toList)=false:=by simpa using n1
    have HX:Hid (∀ j (h:j<L.length),j<k+1→L[j].1≠s.data.toList):=fun j h hj=>by
     by_cases e:j=k
     ·
      subst e; exact he
     ·
      exact A0.out j h (by omega)
    clear he A0
    generalize zI L[k].1=nm at *
    generalize L[k].2.hs=sh at *
    generalize L[k].2.ml=sm at *
    generalize L[k].2.dis=sd at *
    generalize L[k].2.ga=sa at *
    generalize L[k].2.gs.length=sn at *
    generalize L[k].2.gc=sc at *
    go_wp2
    go_roundg (n - (k+1))
    case measure=>omega
    case rel=>exact ⟨k+1,by omega,by omega,by go_num,HB,HX⟩
  ·
   have hltz:¬ (k:Int)<(n:Int):=by omega
   obtain rfl:k=n:=by omega
   have HR:Hid (ZK L s.data.toList w (.returned (.int .i64 (-1))) wr):=by
    refine ⟨_,rfl,.inl ⟨?_,rfl⟩,HW.out⟩
    cases hh:zx L s.data.toList
    ·
     rfl
    ·
     obtain ⟨p,hp,he⟩:=xT.1 hh
     obtain ⟨j,hj,rfl⟩:=List.getElem_of_mem hp
     exact absurd he (A0.out j hj (by have:=HL.out; omega))
   clear A0
   go_wp2
   go_ret
   exact HR.out

theorem own_ne11 {w:World} {base n size:Nat} {e:TypeId} {v:Value} {xs:List Value} (h:w.ownsRow base e size v n xs):some w.heap.size≠v.ownBlock:=fun he=>by
 have:=(h.lt _ he.symm).2
 omega

structure Jw (w:World) (B:Nat) (s:ByteArray) (x:W11) (n:Nat):Prop where
 lt:B<w.heap.size
 c0:w.cell? ⟨B,0,none⟩=some (.string s)
 c1:w.cell? ⟨B,1,none⟩=some (.string x.hs)
 c2:w.cell? ⟨B,2,none⟩=some (.string x.ml)
 c3:w.cell? ⟨B,3,none⟩=some (.bool x.dis)
 c4:w.cell? ⟨B,4,none⟩=some (.slice x.ga n x.gc)
theorem Qc (w:World) (s:ByteArray) (x:W11) (n:Nat):Jw (w.alloc (.cells #[.string s,.string x.hs,.string x.ml,.bool x.dis,.slice x.ga n x.gc] 47)) w.heap.size s x n:=by
 refine ⟨by simp,?_,?_,?_,?_,?_⟩
 all_goals
  rw [World.cell?_alloc_at _ _ _ _ rfl]
  rfl
theorem Jw.of_heap {w W:World} {B n:Nat} {s:ByteArray} {x:W11} (hx:Jw w B s x n) (he:W.heap[B]? = w.heap[B]?):Jw W B s x n:=by
 have hB:=hx.lt
 have hc:∀ i,W.cell? ⟨B,i,none⟩=w.cell? ⟨B,i,none⟩:=fun i=>World.cell?_of_block he
 refine ⟨?_,(hc 0).trans hx.c0,(hc 1).trans hx.c1,(hc 2).trans hx.c2,(hc 3).trans hx.c3,(hc 4).trans hx.c4⟩
 rw [Array.getElem?_eq_getElem hB] at he
 exact (Array.getElem?_eq_some_iff.1 he).1
theorem Jw.below_at {w W:World} {B m:Nat} {s:ByteArray} {x:W11} (hx:Jw w B s x m) {n:Nat} (hn:B<n) (hb:Below n w W):Jw W B s x m:=hx.of_heap (hb.block B hn)

def KeepsO11 (v:Value) (w w':World):Prop:=∀ k,k<w.heap.size→some k≠v.ownBlock→w'.heap[k]? = w.heap[k]?

theorem uG {w1 wr w2:World} {v v2:Value} {L:zL W11} {o:Obj} {q:List UInt8×W11} (hb:Below w1.heap.size w1 wr) (hu:wr.ownsRow w1.heap.size 47 5 v L.length (L.flatMap fa)) (ho:w2.ownsRow w1.heap.size 47 5 v2 (L.length+1) (L.flatMap fa++fa q)) (hg:(wr.alloc o).grownBy w2 v.ownBlock) :
  Below w1.heap.size w1 w2∧w2.ownsRow w1.heap.size 47 5 v2 (L++[q]).length ((L++[q]).flatMap fa)∧KeepsO11 v wr w2:=by
 refine ⟨(z8 hb (z7 (Below.refl _ _) _)).grown hg (by have:=hb.size; simp; omega) (fun j hj=>(hu.lt j hj).1),?_,?_⟩
 ·
  rw [List.length_append,List.flatMap_append]
  simpa using ho
 ·
  intro k hk hne
  exact (hg.block k (by simp; omega) hne).trans (Below.heap_alloc _ _ k hk)

set_option maxRecDepth 100000 in
theorem jg (A:Option Addr) (c n:Nat) (L:zL W11) (s:ByteArray) (x:W11) (w:World) (hn:n=L.length) (h12:n≤12) (hr:zA L) (hu:fA w (.slice A n c) L) :
  Calls Tryz.prog 150 #[.slice A n c,.agg #[.string s,.string x.hs,.string x.ml,.bool x.dis,.slice x.ga x.gs.length x.gc]] w fun e w'=>∃ v,e=.returned v∧vP (zP L s.data.toList x) w' v∧Below w.heap.size w w':=by
 have hnot:∀ (x:Bool) (w:World),(Op.unary .not (.bool x)).run Tryz.prog w=.ok (.bool (!x)) w:=fun _ _=>rfl
 have HA:=za hu
 have HL:=za hn
 have HRI:=za hr
 clear hu hn hr
 obtain ⟨i0,hi,hz0,hz1,hz2⟩:=info_parts qw
 have HB1:=za (z7 (Below.refl w.heap.size w) (.cells #[.string s,.string x.hs,.string x.ml,.bool x.dis,.slice x.ga x.gs.length x.gc] 47))
 have HU0:Hid (Jw (w.alloc (.cells #[.string s,.string x.hs,.string x.ml,.bool x.dis,.slice x.ga x.gs.length x.gc] 47)) w.heap.size s x x.gs.length):=Qc w s x x.gs.length
 go_enter Tryz.func150,Tryz.ntmps150
 go_wp2
 generalize w.alloc (.cells #[.string s,.string x.hs,.string x.ml,.bool x.dis,.slice x.ga x.gs.length x.gc] 47)=w1 at *
 have hblt:w.heap.size<w1.heap.size:=HU0.out.lt
 generalize hub:w.heap.size=ub at *
 go_loopg [5,6,8,11] n (fun gg s5 s6 _ s11 wr=>∃ k:Nat,k≤n∧n - k≤gg∧s11=.int .i64 k∧s6=.bool (jZ L s.data.toList k)∧Hid (Below w1.heap.size w1 wr)∧Hid (wr.ownsRow w1.heap.size 47 5 s5 (Un L s.data.toList x k).length ((Un L s.data.toList x k).flatMap fa)))
 case atStart=>exact ⟨0,Nat.zero_le _,by omega,rfl,rfl,Below.refl _ _,World.ownsRow_nil _ _ _ _⟩
 case round =>
  obtain ⟨k,hk,hg,rfl,rfl,HW,HU⟩:=hrel
  have hlen:=Fg L s.data.toList x k
  rw [← HL.out] at hlen
  have HUB:=za (HU0.out.below_at hblt HW.out)
  by_cases hlt:k<n
  ·
   have hltz:(k:Int)<(n:Int):=by omega
   have hkl:k<L.length:=HL.out ▸ hlt
   have hbw:Below ub w wr:=HB1.out.trans (HW.out.mono (Nat.le_of_lt hblt))
   obtain ⟨g,rfl,c0,c1,c2,c3,c4⟩:=(HA.out.later (hub ▸ hbw)).at_ k hkl
   obtain ⟨q1,q2,q3,q4⟩:=outV_step (h:=x) (n:=s.data.toList) HRI.out hkl
   have hst:=VT (n:=s.data.toList) hkl
   have HQ1:=za q1
   have HQ2:=za q2
   have HQ3:=za q3
   have HQ4:=za q4
   have HST:=za hst
   have HTL:Hid ((zI L[k].1).data.toList=L[k].1):=zy _
   have HUQ:Hid (fa L[k]=[.string (zI L[k].1),.string L[k].2.hs,.string L[k].2.ml,.bool L[k].2.dis,.slice L[k].2.ga L[k].2.gs.length L[k].2.gc]):=rfl
   have HUN:Hid (fa (s.data.toList,x)=[.string s,.string x.hs,.string x.ml,.bool x.dis,.slice x.ga x.gs.length x.gc]):=by
    show _=_
    unfold fa
    rw [xo]
   clear q1 q2 q3 q4 hst hbw
   generalize hLk:L[k]=qk at *
   generalize zI qk.1=nm at *
   generalize qk.2.hs=sh at *
   generalize qk.2.ml=sm at *
   generalize qk.2.dis=sd at *
   generalize qk.2.ga=sa at *
   generalize qk.2.gs.length=sn at *
   generalize qk.2.gc=sc at *
   have HLK:=za hLk
   clear hLk
   rw [← HTL.out] at HQ1 HQ2 HQ3 HQ4 HST
   have HLS:Hid (∀ b,bytesBefore nm.data.toList s.data.toList=b→∀ b2,decide (nm.data.toList=s.data.toList)=b2→(Op.bytesLess s.toList nm.toList || s.toList == nm.toList)=!b∧(nm.toList == s.toList)=b2):=fun b hb b2 hb2=>by
    rw [Lib.toList_data,Lib.toList_data,Zy]
    refine ⟨?_,by rw [← hb2,Bool.eq_iff_iff]; simp⟩
    subst hb
    by_cases e:s.data.toList=nm.data.toList
    ·
     rw [e,zD]; simp
    ·
     rcases WideAt.bytes_total _ _ e with h' | h'
     ·
      rw [h',yq h']; simp
     ·
      rw [yq h',h']; simpa using e
   generalize hdn:jZ L s.data.toList k=dn at *
   have HDN:=za hdn
   clear hdn
   have HWV:=za (z8 HW.out (z7 (Below.refl wr.heap.size wr) (.cells #[.string nm,.string sh,.string sm,.bool sd,.slice sa sn sc] 47)))
   have HUV:=za (HU.out.alloc (.cells #[.string nm,.string sh,.string sm,.bool sd,.slice sa sn sc] 47))
   have HVC:=za (Qc wr nm ⟨sh,sm,sd,sa,[],sc⟩ sn)
   have HUC:=za (HUB.out.below_at (Nat.lt_of_lt_of_le hblt HW.out.size) (z7 (Below.refl wr.heap.size wr) (.cells #[.string nm,.string sh,.string sm,.bool sd,.slice sa sn sc] 47)))
   generalize hbb:bytesBefore nm.data.toList s.data.toList=bb at *
   generalize hee:decide (nm.data.toList=s.data.toList)=ee at *
   obtain ⟨hle,heq⟩:=HLS.out bb rfl ee rfl
   have HEE:Hid (∀ b,ee=b→decide (nm.data.toList=s.data.toList)=b):=fun b hb=>by rw [hee,hb]
   have HBB:Hid (bytesBefore nm.data.toList s.data.toList=bb):=hbb
   clear hbb hee HLS
   have hul:ub<wr.heap.size:=HUB.out.lt
   have u0:=HUB.out.c0
   have u1:=HUB.out.c1
   have u2:=HUB.out.c2
   have u3:=HUB.out.c3
   have u4:=HUB.out.c4
   cases dn with
   | true =>
    obtain ⟨e1,e2,e3⟩:=HQ4.out rfl
    have e2':nm.data.toList≠s.data.toList:=e2
    obtain rfl:ee=false:=by rw [← HEE.out ee rfl]; exact decide_eq_false e2'
    have HE1:=za e1
    clear e1 e2 e2' e3 hle HQ1 HQ2 HQ3 HQ4
    go_wp2_with (first
    | (at_builtin; refine wpList_append_own _ rfl _ _ 57 rfl w1.heap.size 47 i0 (.agg #[.string ⟨#[]⟩,.string ⟨#[]⟩,.string ⟨#[]⟩,.bool false,.slice none 0 0]) 5 80 Tryz.underlying57 hi hz0 hz1 hz2 rfl (by decide) _ _ _ rfl (HUV.out.alloc _) ⟨wr.heap.size+1,0,none⟩ 1 1 [.string nm,.string sh,.string sm,.bool sd,.slice sa sn sc] rfl rfl (fun j u hu=>by rw [Addr.add_lit,Nat.zero_add,World.cell?_alloc_at _ _ _ _ (by simp)]; simpa using hu) (by simp [Value.oneCell']) (by unfold maxLen; omega) (by omega) (by have:=HW.out.size; simp; omega) ?_; intro v2 w2 hown' hgrow _; have HOw2:=za hown'; have HGw2:=za hgrow; clear hown' hgrow)
    | fail)
    have ho:=HOw2.out
    rw [← HUQ.out] at ho
    obtain ⟨r1,r2,_⟩:=uG HWV.out HUV.out ho HGw2.out
    have R1:=za r1
    have R2:=za r2
    clear r1 r2 ho
    go_roundg (n - (k+1))
    case measure=>omega
    case rel=>exact ⟨k+1,by omega,by omega,by go_num,by rw [HST.out]; rfl,R1,(show Hid _ from by rw [HE1.out]; exact R2.out)⟩
   | false =>
    cases bb with
    | true =>
     obtain ⟨e1,e2⟩:=HQ1.out rfl rfl
     have e2':nm.data.toList≠s.data.toList:=e2
     obtain rfl:ee=false:=by rw [← HEE.out ee rfl]; exact decide_eq_false e2'
     have l1:Op.bytesLess s.toList nm.toList=false:=by
      rw [Lib.toList_data,Lib.toList_data,Zy]; exact yq HBB.out
     have l2:(s.toList == nm.toList)=false:=by
      rw [Lib.toList_data,Lib.toList_data]; exact beq_eq_false_iff_ne.2 (fun e=>e2' e.symm)
     have HE1:=za e1
     clear e1 e2 e2' hle HQ1 HQ2 HQ3 HQ4
     go_wp2_with (first
     | (at_builtin; refine wpList_append_own _ rfl _ _ 57 rfl w1.heap.size 47 i0 (.agg #[.string ⟨#[]⟩,.string ⟨#[]⟩,.string ⟨#[]⟩,.bool false,.slice none 0 0]) 5 80 Tryz.underlying57 hi hz0 hz1 hz2 rfl (by decide) _ _ _ rfl (HUV.out.alloc _) ⟨wr.heap.size+1,0,none⟩ 1 1 [.string nm,.string sh,.string sm,.bool sd,.slice sa sn sc] rfl rfl (fun j u hu=>by rw [Addr.add_lit,Nat.zero_add,World.cell?_alloc_at _ _ _ _ (by simp)]; simpa using hu) (by simp [Value.oneCell']) (by unfold maxLen; omega) (by omega) (by have:=HW.out.size; simp; omega) ?_; intro v2 w2 hown' hgrow _; have HOw2:=za hown'; have HGw2:=za hgrow; clear hown' hgrow)
     | fail)
     have ho:=HOw2.out
     rw [← HUQ.out] at ho
     obtain ⟨r1,r2,_⟩:=uG HWV.out HUV.out ho HGw2.out
     have R1:=za r1
     have R2:=za r2
     clear r1 r2 ho
     go_roundg (n - (k+1))
     case measure=>omega
     case rel=>exact ⟨k+1,by omega,by omega,by go_num,by rw [HST.out]; rfl,R1,(show Hid _ from by rw [HE1.out]; exact R2.out)⟩
    | false =>
     by_cases e:nm.data.toList=s.data.toList
     ·
      obtain rfl:ee=true:=by rw [← HEE.out ee rfl]; exact decide_eq_true e
      have l2:(s.toList == nm.toList)=true:=by
       rw [Lib.toList_data,Lib.toList_data,e]; simp
      have e1:=HQ2.out rfl rfl e
      have HE1:=za e1
      clear e1 e hle HQ1 HQ2 HQ3 HQ4
      go_wp2_with (first
      | (at_builtin; refine wpList_append_own _ rfl _ _ 57 rfl w1.heap.size 47 i0 (.agg #[.string ⟨#[]⟩,.string ⟨#[]⟩,.string ⟨#[]⟩,.bool false,.slice none 0 0]) 5 80 Tryz.underlying57 hi hz0 hz1 hz2 rfl (by decide) _ _ _ rfl (HUV.out.alloc _) ⟨wr.heap.size+1,0,none⟩ 1 1 [.string s,.string x.hs,.string x.ml,.bool x.dis,.slice x.ga x.gs.length x.gc] rfl rfl (fun j u hu=>by rw [Addr.add_lit,Nat.zero_add,World.cell?_alloc_at _ _ _ _ (by simp)]; simpa using hu) (by simp [Value.oneCell']) (by unfold maxLen; omega) (by omega) (by have:=HW.out.size; simp; omega) ?_; intro v2 w2 hown' hgrow _; have HOw2:=za hown'; have HGw2:=za hgrow; clear hown' hgrow; have hap:=uG HWV.out HUV.out (by have ho:=HOw2.out; rw [← HUN.out] at ho; exact ho) HGw2.out; have HR2:=za hap.1; have HR3:=za hap.2.1; have HVC2:=za (HVC.out.of_heap (hap.2.2 _ HVC.out.lt (own_ne11 HU.out))); have HUC2:=za (HU0.out.below_at hblt HR2.out); clear hap; have d0:=HVC2.out.c0; have d1:=HVC2.out.c1; have d2:=HVC2.out.c2; have d3:=HVC2.out.c3; have d4:=HVC2.out.c4; have x0:=HUC2.out.c0)
      | fail)
      have R1:=za HR2.out
      have R2:=za HR3.out
      go_roundg (n - (k+1))
      case measure=>omega
      case rel=>exact ⟨k+1,by omega,by omega,by go_num,by rw [HST.out]; rfl,R1,(show Hid _ from by rw [HE1.out]; exact R2.out)⟩
     ·
      obtain rfl:ee=false:=by rw [← HEE.out ee rfl]; exact decide_eq_false e
      have l1:Op.bytesLess s.toList nm.toList=true:=by
       rw [Lib.toList_data,Lib.toList_data,Zy]
       rcases WideAt.bytes_total _ _ e with h' | h'
       ·
        rw [HBB.out] at h'; cases h'
       ·
        exact h'
      have l2:(s.toList == nm.toList)=false:=by
       rw [Lib.toList_data,Lib.toList_data]; exact beq_eq_false_iff_ne.2 (fun e'=>e e'.symm)
      have e1:=HQ3.out rfl rfl e
      have HE1:=za e1
      clear e1 e hle HQ1 HQ2 HQ3 HQ4
      go_wp2_with (first
      | (at_builtin; refine wpList_append_own _ rfl _ _ 57 rfl w1.heap.size 47 i0 (.agg #[.string ⟨#[]⟩,.string ⟨#[]⟩,.string ⟨#[]⟩,.bool false,.slice none 0 0]) 5 80 Tryz.underlying57 hi hz0 hz1 hz2 rfl (by decide) _ _ _ rfl (HUV.out.alloc _) ⟨wr.heap.size+1,0,none⟩ 1 1 [.string s,.string x.hs,.string x.ml,.bool x.dis,.slice x.ga x.gs.length x.gc] rfl rfl (fun j u hu=>by rw [Addr.add_lit,Nat.zero_add,World.cell?_alloc_at _ _ _ _ (by simp)]; simpa using hu) (by simp [Value.oneCell']) (by unfold maxLen; omega) (by omega) (by have:=HW.out.size; simp; omega) ?_; intro v2 w2 hown' hgrow _; have HOw2:=za hown'; have HGw2:=za hgrow; clear hown' hgrow; have hap:=uG HWV.out HUV.out (by have ho:=HOw2.out; rw [← HUN.out] at ho; exact ho) HGw2.out; have HR2:=za hap.1; have HR3:=za hap.2.1; have HVC2:=za (HVC.out.of_heap (hap.2.2 _ HVC.out.lt (own_ne11 HU.out))); have HUC2:=za (HU0.out.below_at hblt HR2.out); clear hap; have d0:=HVC2.out.c0; have d1:=HVC2.out.c1; have d2:=HVC2.out.c2; have d3:=HVC2.out.c3; have d4:=HVC2.out.c4; have x0:=HUC2.out.c0)
      | (at_builtin; refine wpList_append_own _ rfl _ _ 57 rfl w1.heap.size 47 i0 (.agg #[.string ⟨#[]⟩,.string ⟨#[]⟩,.string ⟨#[]⟩,.bool false,.slice none 0 0]) 5 80 Tryz.underlying57 hi hz0 hz1 hz2 rfl (by decide) _ _ _ rfl (HOw2.out.alloc _) ⟨w2.heap.size,0,none⟩ 1 1 [.string nm,.string sh,.string sm,.bool sd,.slice sa sn sc] rfl rfl (fun j u hu=>by rw [Addr.add_lit,Nat.zero_add,World.cell?_alloc_at _ _ _ _ (by simp)]; simpa using hu) (by simp [Value.oneCell']) (by unfold maxLen; omega) (by omega) (by have:=HR2.out.size; simp; omega) ?_; intro v3 w3 hown' hgrow _; have HOw3:=za hown'; have HGw3:=za hgrow; clear hown' hgrow)
      | fail)
      have ho:=HOw3.out
      rw [← HUN.out,← HUQ.out] at ho
      obtain ⟨r1,r2,_⟩:=uG (q:=qk) HR2.out HR3.out (by rw [List.length_append,List.flatMap_append]; simpa using ho) HGw3.out
      have R1:=za r1
      have R2:=za r2
      clear r1 r2 ho
      go_roundg (n - (k+1))
      case measure=>omega
      case rel=>exact ⟨k+1,by omega,by omega,by go_num,by rw [HST.out]; rfl,R1,(show Hid _ from by rw [HE1.out]; exact R2.out)⟩
  ·
   have hltz:¬ (k:Int)<(n:Int):=by omega
   obtain rfl:k=n:=by omega
   have hend:=outV_end (L:=L) s.data.toList x
   rw [← HL.out] at hend
   have HEND:=za hend
   have HUN:Hid (fa (s.data.toList,x)=[.string s,.string x.hs,.string x.ml,.bool x.dis,.slice x.ga x.gs.length x.gc]):=by
    show _=_
    unfold fa
    rw [xo]
   clear hend
   generalize jZ L s.data.toList k=dn at *
   have u0:=HUB.out.c0
   have u1:=HUB.out.c1
   have u2:=HUB.out.c2
   have u3:=HUB.out.c3
   have u4:=HUB.out.c4
   have HWW:Hid (∀ W,Below w1.heap.size w1 W→Below ub w W):=fun W hb=>HB1.out.trans (hb.mono (Nat.le_of_lt hblt))
   cases dn with
   | true =>
    go_wp2
    go_ret
    refine ⟨_,rfl,?_,HWW.out _ HW.out⟩
    rw [HEND.out]
    exact vP.of_own HU.out
   | false =>
    go_wp2_with (first
    | (at_builtin; refine wpList_append_own _ rfl _ _ 57 rfl w1.heap.size 47 i0 (.agg #[.string ⟨#[]⟩,.string ⟨#[]⟩,.string ⟨#[]⟩,.bool false,.slice none 0 0]) 5 80 Tryz.underlying57 hi hz0 hz1 hz2 rfl (by decide) _ _ _ rfl (HU.out.alloc _) ⟨wr.heap.size,0,none⟩ 1 1 [.string s,.string x.hs,.string x.ml,.bool x.dis,.slice x.ga x.gs.length x.gc] rfl rfl (fun j u hu=>by rw [Addr.add_lit,Nat.zero_add,World.cell?_alloc_at _ _ _ _ (by simp)]; simpa using hu) (by simp [Value.oneCell']) (by unfold maxLen; omega) (by omega) (by have:=HW.out.size; simp; omega) ?_; intro v2 w2 hown' hgrow _; have HOw2:=za hown'; have HGw2:=za hgrow; clear hown' hgrow)
    | fail)
    go_ret
    have ho:=HOw2.out
    rw [← HUN.out] at ho
    obtain ⟨r1,r2,_⟩:=uG HW.out HU.out ho HGw2.out
    refine ⟨_,rfl,?_,HWW.out _ r1⟩
    rw [HEND.out]
    exact vP.of_own r2
theorem del_stepV {L:zL W11} {n:List UInt8} {k:Nat} (hk:k<L.length):yu (L.take (k+1)) n=yu (L.take k) n++if L[k].1=n then [] else [L[k]]:=by rw [List.take_succ_eq_append_getElem hk,Jl]
theorem del_leV (L:zL W11) (n:List UInt8) (k:Nat):(yu (L.take k) n).length≤L.length:=Nat.le_trans (List.length_filter_le _ _) (by simp; omega)

set_option maxRecDepth 100000 in
theorem fU (A:Option Addr) (c n:Nat) (L:zL W11) (s:ByteArray) (w:World) (hn:n=L.length) (h12:n≤12) (hu:fA w (.slice A n c) L) :
  Calls Tryz.prog 151 #[.slice A n c,.string s] w fun e w'=>∃ v,e=.returned v∧vP (yu L s.data.toList) w' v∧Below w.heap.size w w':=by
 have HA:=za hu
 have HL:=za hn
 clear hu hn
 obtain ⟨i0,hi,hz0,hz1,hz2⟩:=info_parts qw
 go_enter Tryz.func151,Tryz.ntmps151
 go_wp2
 go_loopg [5,7,10] n (fun gg s5 _ s10 wr=>∃ k:Nat,k≤n∧n - k≤gg∧s10=.int .i64 k∧Hid (Below w.heap.size w wr)∧Hid (wr.ownsRow w.heap.size 47 5 s5 (yu (L.take k) s.data.toList).length ((yu (L.take k) s.data.toList).flatMap fa)))
 case atStart=>exact ⟨0,Nat.zero_le _,by omega,rfl,Below.refl _ _,World.ownsRow_nil _ _ _ _⟩
 case round =>
  obtain ⟨k,hk,hg,rfl,HW,HU⟩:=hrel
  have hlen:=del_leV L s.data.toList k
  rw [← HL.out] at hlen
  by_cases hlt:k<n
  ·
   have hltz:(k:Int)<(n:Int):=by omega
   have hkl:k<L.length:=HL.out ▸ hlt
   obtain ⟨g,rfl,c0,c1,c2,c3,c4⟩:=(HA.out.later HW.out).at_ k hkl
   have hst:=del_stepV (n:=s.data.toList) hkl
   have HWV:=za (z8 HW.out (z7 (Below.refl wr.heap.size wr) (.cells #[.string (zI L[k].1),.string L[k].2.hs,.string L[k].2.ml,.bool L[k].2.dis,.slice L[k].2.ga L[k].2.gs.length L[k].2.gc] 47)))
   have HUV:=za (HU.out.alloc (.cells #[.string (zI L[k].1),.string L[k].2.hs,.string L[k].2.ml,.bool L[k].2.dis,.slice L[k].2.ga L[k].2.gs.length L[k].2.gc] 47))
   have HUQ:Hid (fa L[k]=[.string (zI L[k].1),.string L[k].2.hs,.string L[k].2.ml,.bool L[k].2.dis,.slice L[k].2.ga L[k].2.gs.length L[k].2.gc]):=rfl
   by_cases he:L[k].1=s.data.toList
   ·
    rw [if_pos he,List.append_nil] at hst
    have hs:zI L[k].1=s:=tx11_eq he
    have n2:(s.toList == s.toList)=true:=by simp
    rw [hs] at c0 HWV HUV
    have HST:=za hst
    clear hs hst he
    generalize L[k].2.hs=sh at *
    generalize L[k].2.ml=sm at *
    generalize L[k].2.dis=sd at *
    generalize L[k].2.ga=sa at *
    generalize L[k].2.gs.length=sn at *
    generalize L[k].2.gc=sc at *
    go_wp2
    go_roundg (n - (k+1))
    case measure=>omega
    case rel=>exact ⟨k+1,by omega,by omega,by go_num,HWV,(show Hid _ from by rw [HST.out]; exact HUV.out)⟩
   ·
    rw [if_neg he] at hst
    have n1:=tx11_ne he
    have n2:((zI L[k].1).toList == s.toList)=false:=by simpa using n1
    have HST:=za hst
    clear hst he
    generalize L[k]=qk at *
    generalize zI qk.1=nm at *
    generalize qk.2.hs=sh at *
    generalize qk.2.ml=sm at *
    generalize qk.2.dis=sd at *
    generalize qk.2.ga=sa at *
    generalize qk.2.gs.length=sn at *
    generalize qk.2.gc=sc at *
    go_wp2_with (first
     | (at_builtin; refine wpList_append_own _ rfl _ _ 57 rfl w.heap.size 47 i0 (.agg #[.string ⟨#[]⟩,.string ⟨#[]⟩,.string ⟨#[]⟩,.bool false,.slice none 0 0]) 5 80 Tryz.underlying57 hi hz0 hz1 hz2 rfl (by decide) _ _ _ rfl (HUV.out.alloc _) ⟨wr.heap.size+1,0,none⟩ 1 1 [.string nm,.string sh,.string sm,.bool sd,.slice sa sn sc] rfl rfl (fun j u hu=>by rw [Addr.add_lit,Nat.zero_add,World.cell?_alloc_at _ _ _ _ (by simp)]; simpa using hu) (by simp [Value.oneCell']) (by unfold maxLen; omega) (by omega) (by have:=HW.out.size; simp; omega) ?_; intro v2 w2 hown' hgrow _; have HO2:=za hown'; have HG2:=za hgrow; clear hown' hgrow)
     | fail)
    have ho:=HO2.out
    rw [← HUQ.out] at ho
    obtain ⟨r1,r2,_⟩:=uG HWV.out HUV.out ho HG2.out
    have R1:=za r1
    have R2:=za r2
    clear r1 r2 ho
    go_roundg (n - (k+1))
    case measure=>omega
    case rel=>exact ⟨k+1,by omega,by omega,by go_num,R1,(show Hid _ from by rw [HST.out]; exact R2.out)⟩
  ·
   have hltz:¬ (k:Int)<(n:Int):=by omega
   obtain rfl:k=n:=by omega
   have hu:=HU.out
   rw [List.take_of_length_le (by have:=HL.out; omega)] at hu
   have HF:=za (vP.of_own hu)
   clear hu
   go_wp2
   go_ret
   exact ⟨_,rfl,HF.out,HW.out⟩

end Go.Proofs.YthmomkjingcbiaaGreatDoor
namespace Go.Proofs.YthmomkjingcbiaaGreatDoor
open Go.RowKit Go.Maps
set_option linter.unusedSectionVars false

theorem vW {w:World} {b1 b2 s1 s2 n1 n2:Nat} {e1 e2:TypeId} {v1 v2:Value} {xs1 xs2:List Value} (h1:w.ownsRow b1 e1 s1 v1 n1 xs1) (h2:w.ownsRow b2 e2 s2 v2 n2 xs2) (he:e1≠e2):v1.ownBlock=none∨v1.ownBlock≠v2.ownBlock:=by
  rcases h1.2 with ⟨rfl,_⟩ | ⟨g,cap,cur,rfl,_,hg,_⟩
  · exact .inl rfl
  · rcases h2.2 with ⟨rfl,_⟩ | ⟨g2,cap2,cur2,rfl,_,hg2,_⟩
    · exact .inr (by simp [Value.ownBlock])
    · refine .inr fun e=>?_
      have:g=g2:=by simpa [Value.ownBlock] using e
      subst this
      rw [hg] at hg2
      injection hg2 with h
      injection h with _ h
      exact he h

def qI (b:Nat) (w:World) (R:zL W11):Prop:=∀ p∈R,w.ownsRow b 9 1 (.slice p.2.ga p.2.gs.length p.2.gc) p.2.gs.length (p.2.gs.map encStr)
def ze (R:zL W11):yA:=R.map fun p=>(p.1,p.2.u)
def vQ (b:Nat) (R:zL W11) (w:World) (v:Value):Prop:=w.ownsRow b 47 5 v R.length (R.flatMap fa)∧qI b w R
section
variable {w w':World} {b:Nat} {R:zL W11} {v:Value}
theorem qI.later (h:qI b w R) (hb:Below w.heap.size w w'):qI b w' R:=fun p hp=>zG (h p hp) hb
theorem qI.keeps (h:qI b w R) (hk:zu w w'):qI b w' R:=fun p hp=>vr (h p hp) hk (by decide) (by decide) (by decide)
theorem qI.low (h:qI b w R) {a:Nat} (ha:a≤b):qI a w R:=fun p hp=>zC (h p hp) ha
theorem vQ.later (h:vQ b R w v) (hb:Below w.heap.size w w'):vQ b R w' v:=⟨zG h.1 hb,h.2.later hb⟩
theorem vQ.keeps (h:vQ b R w v) (hk:zu w w'):vQ b R w' v:=⟨vr h.1 hk (by decide) (by decide) (by decide),h.2.keeps hk⟩
theorem vQ.low (h:vQ b R w v) {a:Nat} (ha:a≤b):vQ a R w v:=⟨zC h.1 ha,h.2.low ha⟩
theorem vQ.rw (h:vQ b R w v):vP R w v:=vP.of_own h.1
theorem vQ.nil (b:Nat) (w:World):vQ b [] w (.slice none 0 0):=⟨World.ownsRow_nil _ _ _ _,(fun _ h=>nomatch h)⟩
theorem jJ (R:zL W11):(ze R).length=R.length:=List.length_map _
end

section
variable [Fr11] {w0 w:World} {D P M G:Nat} {A:zJ} {L:zB} {S:zw} {k:Nat}
set_option maxRecDepth 100000 in
theorem QP (ho:zo w0 w D P M G A L S) (hg:zt A L S k):Calls Tryz.prog 45 #[.pointer (some ⟨D,0,none⟩)] w fun e w'=>∃ v R,e=.returned v∧vQ w.heap.size R w' v∧ze R=zc A L S∧Below w.heap.size w w':=by
  have HN:=za (V7 ho hg.rise hg.few)
  have HT:Hid (∀ W n,Below w.heap.size w W→n.size≤9223372036854775807→Calls Tryz.prog 54 #[.pointer (some ⟨D,0,none⟩),.string n] W fun e w'=>∃ v,e=.returned v∧U2 A L S n w w' v∧Below W.heap.size W w'):=fun W n hb hn =>
    (Qg n (ho.later hb) hg.grp hn).mono fun e w' ⟨v,he,ht,hb'⟩=>⟨v,he,ht.low hb,hb'⟩
  have HG:=za hg
  have hfew:=hg.few
  clear ho hg
  obtain ⟨i0,hi,hz0,hz1,hz2⟩:=info_parts qw
  obtain ⟨n,hn⟩:∃ n,n=A.length:=⟨_,rfl⟩
  have HLN:Hid (A.length=n):=hn.symm
  rw [← hn] at hfew
  clear hn
  go_enter Tryz.func45,Tryz.ntmps45
  go_wp2_with fail
  with_reducible refine HN.out.mono ?_
  rintro e w1 ⟨v,rfl,hrow,hb⟩
  rw [yK,HLN.out] at hrow
  have hlen:(zb A).length=n:=by rw [yK]; exact HLN.out
  obtain ⟨AA,c,rfl⟩:∃ AA c,v=.slice AA n c:=by
    have:=xA (ls:=zb A) (by rw [hlen]; exact hrow)
    rwa [hlen] at this
  have HRW:=za hrow
  have HB:=za hb
  have HLE:=za hlen
  clear hb hrow HN hlen
  go_wp2
  go_loopg [3,5,9] n (fun gg s3 _ s9 wr=>∃ k:Nat,k≤n∧n - k≤gg∧s9=.int .i64 k∧Hid (Below w.heap.size w wr)∧Hid (wr.ownsRow w.heap.size 9 1 (.slice AA n c) n ((zb A).map encStr))∧∃ R:zL W11,R.length=k∧Hid (ze R=(zc A L S).take k)∧Hid (wr.ownsRow w.heap.size 47 5 s3 k (R.flatMap fa))∧Hid (qI w.heap.size wr R))
  case atStart=>exact ⟨0,Nat.zero_le _,by omega,rfl,HB,HRW,[],rfl,rfl,World.ownsRow_nil _ _ _ _,(fun _ h=>nomatch h)⟩
  case round =>
    obtain ⟨k,hk,hg,rfl,HW,HR2,R,hRl,HPL,HU,HGS⟩:=hrel
    by_cases hlt:k<n
    · have hltz:(k:Int)<(n:Int):=by omega
      have hkl:k<A.length:=by have:=HLN.out; omega
      have hr2:=HR2.out
      have hle:=HLE.out
      obtain ⟨g,cx,e1,hcell⟩:=fM (ls:=zb A) (by rw [hle]; exact hr2) (zm.refl (fun _=>False) wr) (fun _ _ _ _ _ _ f=>f) (k:=k) (by rw [hle]; exact hlt)
      injection e1 with e1 e2 e3
      subst e1
      subst e3
      clear e2
      have hnm:(zb A)[k]'(by rw [hle]; exact hlt)=A[k].1:=by simp [zb]
      rw [hnm] at hcell
      have hna:A[k]∈A:=List.getElem_mem hkl
      have hsz:(zI A[k].1).size≤9223372036854775807:=by
        rw [xF]
        exact Nat.le_trans (qt (HG.out.nm _ hna).1) (by decide)
      have HTK:=za (HT.out wr (zI A[k].1) HW.out hsz)
      have hgk:xJ A A[k].1=some A[k].2:=(zH HG.out.rise).2 hna
      have HTE:Hid (xQ L S A[k].1 A[k].2=⟨jr A A[k].1,xk L A[k].1,uK A A[k].1,yV S A[k].1⟩):=by
        show _=_
        unfold xQ jr uK
        rw [hgk]
      have HTT:Hid ((zc A L S).take (k+1)=(zc A L S).take k++[(A[k].1,xQ L S A[k].1 A[k].2)]):=by
        have hkt:k<(zc A L S).length:=by rw [um]; exact hkl
        show _=_
        rw [List.take_succ_eq_append_getElem hkt]
        congr 1
        simp [zc]
      have HNM:Hid ((zI A[k].1).data.toList=A[k].1):=zy _
      generalize hkn:A[k].1=kn at *
      generalize hsn:zI kn=sn at *
      have HSN:=za hsn
      clear hnm hr2 hle hsz hna hgk hkn hsn
      go_wp2_with fail
      with_reducible refine HTK.out.mono ?_
      rintro e w2 ⟨v,rfl,⟨ga,gc,rfl,hgr⟩,hb⟩
      rw [HNM.out] at hgr ⊢
      have HGR:=za hgr
      have HU2:=za (zG HU.out hb)
      have HR3:=za (zG HR2.out hb)
      have HGS2:=za (HGS.out.later hb)
      have HB2:=za (z8 HW.out hb)
      clear hgr hb HTK hcell
      generalize hha:zI (jr A kn)=sh at *
      have HHA:Hid (sh.data.toList=jr A kn):=by rw [← hha]; exact zy _
      generalize hhm:zI (xk L kn)=sm at *
      have HHM:Hid (sm.data.toList=xk L kn):=by rw [← hhm]; exact zy _
      clear hha hhm
      generalize hdd:uK A kn=dd at *
      generalize hgs:yV S kn=gs at *
      generalize hgl:gs.length=gl at *
      have HGL:=za hgl
      clear hdd hgs hgl
      have hrk:k≤12:=by omega
      go_wp2_with (first
        | (at_builtin; refine wpList_append_own _ rfl _ _ 57 rfl w.heap.size 47 i0 (.agg #[.string ⟨#[]⟩,.string ⟨#[]⟩,.string ⟨#[]⟩,.bool false,.slice none 0 0]) 5 80 Tryz.underlying57 hi hz0 hz1 hz2 rfl (by decide) _ _ _ rfl (HU2.out.alloc _) ⟨w2.heap.size,0,none⟩ 1 1 [.string sn,.string sh,.string sm,.bool dd,.slice ga gl gc] rfl rfl
            (fun j u hu=>by rw [Addr.add_lit,Nat.zero_add,World.cell?_alloc_at _ _ _ _ rfl]; simpa using hu) (by simp [Value.oneCell']) (by unfold maxLen; omega) (by omega) (by have:=HB2.out.size; simp; omega) ?_
           intro v' w3 hown' hgrow _
           have HO:=za hown'
           have HGW:=za hgrow
           clear hown' hgrow)
        | fail)
      go_roundg (n - (k+1))
      case measure=>omega
      case rel =>
        refine ⟨k+1,by omega,by omega,by go_num,(show Hid _ from ?_),(show Hid _ from ?_),R++[(kn,⟨sh,sm,dd,ga,gs,gc⟩)],by rw [List.length_append,hRl]; rfl,(show Hid _ from ?_),(show Hid _ from ?_),(show Hid _ from ?_)⟩
        · exact (z8 HB2.out (z7 (Below.refl _ _) _)).grown HGW.out (by have:=HB2.out.size; simp; omega) (fun j hj=>(HU2.out.lt j hj).1)
        · exact (HR3.out.alloc _).kept HGW.out (vW HR3.out HU2.out (by decide))
        · show ze _=_
          rw [HTT.out,HTE.out,← HPL.out]
          unfold ze
          rw [List.map_append]
          show _++[(kn,W11.u ⟨sh,sm,dd,ga,gs,gc⟩)]=_
          unfold W11.u
          rw [HHA.out,HHM.out]
        · rw [List.flatMap_append]
          have ho:=HO.out
          have e:[(kn,(⟨sh,sm,dd,ga,gs,gc⟩:W11))].flatMap fa=[.string sn,.string sh,.string sm,.bool dd,.slice ga gl gc]:=by
            simp [fa,HSN.out,HGL.out]
          rw [e]
          exact ho
        · intro p hp
          rcases List.mem_append.1 hp with hp | hp
          · have h:=HGS2.out p hp
            exact (h.alloc _).kept HGW.out (vW h HU2.out (by decide))
          · obtain rfl:=List.mem_singleton.1 hp
            have h:=HGR.out
            show World.ownsRow _ _ _ _ (.slice ga gs.length gc) gs.length (gs.map encStr)
            rw [HGL.out]
            exact (h.alloc _).kept HGW.out (vW h HU2.out (by decide))
    · have hltz:¬ (k:Int)<(n:Int):=by omega
      obtain rfl:k=n:=by omega
      go_wp2
      go_ret
      have hp:=HPL.out
      have hu:=HU.out
      rw [← hRl] at hu
      rw [List.take_of_length_le (by rw [um,HLN.out]; exact Nat.le_refl _)] at hp
      exact ⟨_,rfl,R,⟨hu,HGS.out⟩,hp,HW.out⟩
end
end Go.Proofs.YthmomkjingcbiaaGreatDoor
namespace Go.Proofs.YthmomkjingcbiaaGreatDoor
open Go.RowKit Go.Maps

abbrev zn:TypeId:=59
def yv (W:World) (b:Nat) (v1 v2:Value):Prop:=W.heap[b]? = some (.cells #[v1,v2] 59 (0,0))
section
variable {W W':World} {b:Nat} {v1 v2:Value}
theorem yv.c0 (h:yv W b v1 v2):W.cell? ⟨b,0,none⟩=some v1:=by simp [World.cell?,show W.heap[b]? = _ from h]
theorem yv.c1 (h:yv W b v1 v2):W.cell? ⟨b,1,none⟩=some v2:=by simp [World.cell?,show W.heap[b]? = _ from h]
theorem yv.f0 (h:yv W b v1 v2):W.frozen? ⟨b,0,none⟩=false:=by simp [World.frozen?,show W.heap[b]? = _ from h]
theorem yv.f1 (h:yv W b v1 v2):W.frozen? ⟨b,1,none⟩=false:=by simp [World.frozen?,show W.heap[b]? = _ from h]
theorem yv.lt (h:yv W b v1 v2):b<W.heap.size:=(Array.getElem?_eq_some_iff.1 h).1
theorem yv.later (h:yv W b v1 v2) (hb:Below W.heap.size W W'):yv W' b v1 v2:=(hb.block b h.lt).trans h
theorem yv.turns {S:Nat→Prop} (h:yv W b v1 v2) (ht:zm S W W') (hS:¬ S b):yv W' b v1 v2:=(ht.block b h.lt hS).trans h
theorem yv.q11 (h:yv W b v1 v2):W.cell? ⟨b,0,none⟩=some v1∧W.cell? ⟨b,1,none⟩=some v2∧W.frozen? ⟨b,0,none⟩=false∧W.frozen? ⟨b,1,none⟩=false:=⟨h.c0,h.c1,h.f0,h.f1⟩
theorem zi {W:World} {o:Obj} {n:Nat} (h:W.heap.size=n):(W.alloc o).heap[n]? = some o:=by
 subst h
 exact (MapKept.heap_alloc W _).1
theorem zr (W:World) (v1 v2:Value):yv (W.alloc (.cells #[v1,v2] 59)) W.heap.size v1 v2:=(MapKept.heap_alloc W _).1
end
def zR (W w':World):Prop:=∀ (k:Nat) (c:Array Value) (T:TypeId) (fr:Nat×Nat),W.heap[k]? = some (.cells c T fr)→T≠zn→w'.heap[k]? = some (.cells c T fr)
theorem zR.trans {a b c:World} (h:zR a b) (k:zR b c):zR a c:=fun i x T fr hi hT=>k i x T fr (h i x T fr hi hT) hT
theorem zR.of_below {W w':World} (hb:Below W.heap.size W w'):zR W w':=fun k _ _ _ h _=>(hb.block k (Array.getElem?_eq_some_iff.1 h).1).trans h
theorem yv.keep {W:World} {b:Nat} {v1 v2:Value} (h:yv W b v1 v2) (i:Nat) (x:Value):zR W (W.setCell ⟨b,i,none⟩ x):=fun k c T fr hk hT=>by
 refine (Below.heap_setCell _ _ _ _ (fun e=>hT ?_)).trans hk
 have e':k=b:=e
 rw [e',show W.heap[b]? = _ from h] at hk
 injection hk with hk
 injection hk with _ hk
 exact hk.symm
theorem vt {w w':World} {b:Nat} {e size n:Nat} {v:Value} {xs:List Value} (h:w.ownsRow b e size v n xs) (hk:zR w w') (he:e≠zn):w'.ownsRow b e size v n xs:=by
 refine ⟨h.1,?_⟩
 rcases h.2 with hn | ⟨g,cap,cur,e1,h0,hg,hr⟩
 ·
  exact .inl hn
 ·
  exact .inr ⟨g,cap,cur,e1,h0,hk g _ _ _ hg he,hr⟩
theorem NmR.keepD11 {w w':World} {v:Value} {N:List (List UInt8)} (h:NmR w v N) (hk:zR w w'):NmR w' v N:=vt h hk (by decide)
theorem yv.set0 {W:World} {b:Nat} {v1 v2:Value} (h:yv W b v1 v2) (x:Value):yv (W.setCell ⟨b,0,none⟩ x) b x v2:=by
 have h':W.heap[b]? = some (.cells #[v1,v2] zn (0,0)):=h
 have hl:=h.lt
 have:=h'
 rw [Array.getElem?_eq_getElem hl] at this
 injection this with this
 show (W.setCell ⟨b,0,none⟩ x).heap[b]? = _
 simp [World.setCell,hl,Array.getElem_modify,this]
theorem yv.set1 {W:World} {b:Nat} {v1 v2:Value} (h:yv W b v1 v2) (x:Value):yv (W.setCell ⟨b,1,none⟩ x) b v1 x:=by
 have h':W.heap[b]? = some (.cells #[v1,v2] zn (0,0)):=h
 have hl:=h.lt
 have:=h'
 rw [Array.getElem?_eq_getElem hl] at this
 injection this with this
 show (W.setCell ⟨b,1,none⟩ x).heap[b]? = _
 simp [World.setCell,hl,Array.getElem_modify,this]
theorem yv.other {W:World} {b c i:Nat} {v1 v2:Value} (h:yv W b v1 v2) (hne:b≠c) (x:Value):yv (W.setCell ⟨c,i,none⟩ x) b v1 v2:=(Below.heap_setCell _ _ _ _ hne).trans h
theorem Below.cellD11 {w wr:World} {b i:Nat} (hb:Below w.heap.size w wr) (h:w.heap.size≤b) (x:Value):Below w.heap.size w (wr.setCell ⟨b,i,none⟩ x):=hb.setCell (p:=⟨b,i,none⟩) h x
theorem yt {w wr:World} {b:Nat} {u1 u2:Value} (hb:Below w.heap.size w wr) (hr:yv wr b u1 u2) (h:w.heap.size≤b) (x y:Value) :
  yv ((wr.setCell ⟨b,0,none⟩ x).setCell ⟨b,1,none⟩ y) b x y∧Below w.heap.size w ((wr.setCell ⟨b,0,none⟩ x).setCell ⟨b,1,none⟩ y)∧zR wr ((wr.setCell ⟨b,0,none⟩ x).setCell ⟨b,1,none⟩ y) :=
 ⟨(hr.set0 x).set1 y,Below.cellD11 (Below.cellD11 hb h x) h y,(hr.keep 0 x).trans ((hr.set0 x).keep 1 y)⟩



theorem qI.keepD11 {b:Nat} {w w':World} {R:zL W11} (h:qI b w R) (hk:zR w w'):qI b w' R:=fun p hp=>vt (h p hp) hk (by decide)
theorem vQ.keepD11 {b:Nat} {w w':World} {R:zL W11} {v:Value} (h:vQ b R w v) (hk:zR w w'):vQ b R w' v:=⟨vt h.1 hk (by decide),h.2.keepD11 hk⟩
def yx (E:Int) (l:yA) (N:List (List UInt8)) (w:World) (e:Ending) (w':World):Prop :=
 ∃ R v vg,e=.returned (.tuple #[.agg #[v,vg],.int .i64 E])∧vQ 0 R w' v∧ze R=l∧NmR w' vg N∧Below w.heap.size w w'
def zV (s:ByteArray) (x:W11):Value:=.agg #[.string s,.string x.hs,.string x.ml,.bool x.dis,.slice x.ga x.gs.length x.gc]
def Yc:W11:=⟨⟨#[]⟩,⟨#[]⟩,false,none,[],0⟩
theorem ZS (R:zL W11):zb (ze R)=zb R:=vv W11.u R
theorem xq (R:zL W11) (n:List UInt8):zx (ze R) n=zx R n:=map_hasV W11.u R n
theorem xS (R:zL W11) (n:List UInt8) (x:W11):ze (zP R n x)=zP (ze R) n x.u:=map_putV W11.u R n x
theorem VB (R:zL W11) (n:List UInt8):ze (yu R n)=yu (ze R) n:=Uy W11.u R n
theorem xr (R:zL W11) (n:List UInt8):xJ (ze R) n=(xJ R n).map W11.u:=by
 unfold xJ ze
 rw [List.find?_map]
 have e:((fun p:List UInt8×U11=>p.1 == n) ∘ fun p:List UInt8×W11=>(p.1,p.2.u))=fun p=>p.1 == n:=rfl
 rw [e]
 cases R.find? fun p=>p.1 == n <;> rfl
theorem Fd {R:zL W11}:zA (ze R)↔zA R:=⟨fun h=>yN h (ZS R).symm,fun h=>yN h (ZS R)⟩
theorem qI.put {b:Nat} {w:World} {R:zL W11} (h:qI b w R) (n:List UInt8) (x:W11) (hx:w.ownsRow b 9 1 (.slice x.ga x.gs.length x.gc) x.gs.length (x.gs.map encStr)):qI b w (zP R n x):=fun p hp=>by
 rcases yD.1 hp with rfl | ⟨hp,_⟩
 ·
  exact hx
 ·
  exact h p hp
theorem qI.del {b:Nat} {w:World} {R:zL W11} (h:qI b w R) (n:List UInt8):qI b w (yu R n):=fun p hp=>h p (yn.1 hp).1
theorem qI.get {b:Nat} {w:World} {R:zL W11} (h:qI b w R) (hr:zA R) {n:List UInt8} {x:W11} (hx:xJ R n=some x):NmR w (.slice x.ga x.gs.length x.gc) x.gs:=zC (h (n,x) ((zH hr).1 hx)) (Nat.zero_le _)

set_option maxRecDepth 100000 in
theorem jj (v:Value) (N:List (List UInt8)) (s:ByteArray) (w:World) (h12:N.length≤1000) (hu:NmR w v N) :
  Calls Tryz.prog 160 #[v,.string s] w (zY (vl N s.data.toList) w):=by
 obtain ⟨A,c,rfl⟩:=hu.shape
 have HA:=za hu
 clear hu
 obtain ⟨n,hn⟩:∃ n,n=N.length:=⟨_,rfl⟩
 rw [← hn] at HA h12 ⊢
 have HL:=za hn
 clear hn
 obtain ⟨r,hr⟩:∃ r,r=vl N s.data.toList:=⟨_,rfl⟩
 rw [← hr]
 have HRS:=za hr
 clear hr
 go_enter Tryz.func160,Tryz.ntmps160
 go_wp2
 go_loopg [6,9] n (fun gg _ s9 wr=>∃ k:Nat,k≤n∧n - k≤gg∧s9=.int .i64 k∧Hid (Below w.heap.size w wr)∧Hid (∀ j (h:j<N.length),j<k→N[j]≠s.data.toList))
 case atStart=>exact ⟨0,Nat.zero_le _,by omega,rfl,Below.refl _ _,fun j _ hj=>absurd hj (Nat.not_lt_zero _)⟩
 case round =>
  obtain ⟨k,hk,hg,rfl,HW,A0⟩:=hrel
  by_cases hlt:k<n
  ·
   have hltz:(k:Int)<(n:Int):=by omega
   have hkl:k<N.length:=HL.out ▸ hlt
   obtain ⟨g,cx,e2,x0⟩:=(HA.out.later HW.out).at_ hkl
   injection e2 with e2 e2n e2c
   subst e2
   clear e2n e2c
   by_cases he:N[k]=s.data.toList
   ·
    have hs:zI N[k]=s:=JL he
    have HGE:Hid (r=true):=HRS.out.trans (ve.2 (he ▸ List.getElem_mem hkl))
    have n2:(s.toList == s.toList)=true:=by simp
    rw [hs] at x0
    clear he hs A0
    go_wp2
    go_ret
    exact ⟨by rw [HGE.out]; rfl,HW.out⟩
   ·
    have n2:=JK he
    have n1:¬ (zI N[k]).toList=s.toList:=by simpa using n2
    have HX:Hid (∀ j (h:j<N.length),j<k+1→N[j]≠s.data.toList):=fun j h hj=>by
     by_cases e:j=k
     ·
      subst e; exact he
     ·
      exact A0.out j h (by omega)
    clear he A0
    generalize zI N[k]=nm at *
    go_wp2
    go_roundg (n - (k+1))
    case measure=>omega
    case rel=>exact ⟨k+1,by omega,by omega,by go_num,HW,HX⟩
  ·
   have hltz:¬ (k:Int)<(n:Int):=by omega
   obtain rfl:k=n:=by omega
   have HGE:Hid (r=false):=HRS.out.trans (ZD.2 fun hm=>by
    obtain ⟨j,hj,e⟩:=List.getElem_of_mem hm
    exact A0.out j hj (by have:=HL.out; omega) e)
   clear A0
   go_wp2
   go_ret
   exact ⟨by rw [HGE.out]; rfl,HW.out⟩


theorem Jf {N:List (List UInt8)} {s:List UInt8} {k:Nat} (hk:k<N.length):xZ (N.take (k+1)) s=xZ (N.take k) s++if N[k]=s then [] else [N[k]]:=by
 unfold xZ
 rw [List.take_succ_eq_append_getElem hk,List.filter_append]
 by_cases e:N[k]=s <;> simp [e]
theorem dropN_le11 (N:List (List UInt8)) (s:List UInt8) (k:Nat):(xZ (N.take k) s).length≤N.length:=Nat.le_trans (List.length_filter_le _ _) (by simp; omega)
theorem Xo:(Tryz.prog.info? 9).map (fun i=>(i.zero,i.size,i.bytes))=some (some (.string ⟨#[]⟩),1,16):=by kernel_rfl
set_option maxRecDepth 100000 in
theorem qW (v:Value) (N:List (List UInt8)) (s:ByteArray) (w:World) (h12:N.length≤900) (hu:NmR w v N) :
  Calls Tryz.prog 157 #[v,.string s] w fun e w'=>∃ v',e=.returned v'∧NmR w' v' (xZ N s.data.toList)∧Below w.heap.size w w':=by
 obtain ⟨A,c,rfl⟩:=hu.shape
 have HA:=za hu
 clear hu
 obtain ⟨i0,hi,hz0,hz1,hz2⟩:=info_parts Xo
 obtain ⟨n,hn⟩:∃ n,n=N.length:=⟨_,rfl⟩
 rw [← hn] at HA h12 ⊢
 have HL:=za hn
 clear hn
 go_enter Tryz.func157,Tryz.ntmps157
 go_wp2
 go_loopg [5,7,10] n (fun gg s5 _ s10 wr=>∃ k:Nat,k≤n∧n - k≤gg∧s10=.int .i64 k∧Hid (Below w.heap.size w wr)∧Hid (wr.ownsRow w.heap.size 9 1 s5 (xZ (N.take k) s.data.toList).length ((xZ (N.take k) s.data.toList).map encStr)))
 case atStart=>exact ⟨0,Nat.zero_le _,by omega,rfl,Below.refl _ _,World.ownsRow_nil _ _ _ _⟩
 case round =>
  obtain ⟨k,hk,hg,rfl,HW,HU⟩:=hrel
  have hlen:=dropN_le11 N s.data.toList k
  rw [← HL.out] at hlen
  by_cases hlt:k<n
  ·
   have hltz:(k:Int)<(n:Int):=by omega
   have hkl:k<N.length:=HL.out ▸ hlt
   obtain ⟨g,cx,e2,x0⟩:=(HA.out.later HW.out).at_ hkl
   injection e2 with e2 e2n e2c
   subst e2
   clear e2n e2c
   have hst:=Jf (s:=s.data.toList) hkl
   by_cases he:N[k]=s.data.toList
   ·
    rw [if_pos he,List.append_nil] at hst
    have hs:zI N[k]=s:=JL he
    have n2:(s.toList != s.toList)=false:=by simp
    have n3:(s.toList == s.toList)=true:=by simp
    rw [hs] at x0
    have HST:=za hst
    clear hs hst he
    go_wp2
    go_roundg (n - (k+1))
    case measure=>omega
    case rel=>exact ⟨k+1,by omega,by omega,by go_num,HW,(show Hid _ from by rw [HST.out]; exact HU.out)⟩
   ·
    rw [if_neg he] at hst
    have n2:=JK he
    have n1:¬ (zI N[k]).toList=s.toList:=by simpa using n2
    have HST:=za hst
    have HEN:Hid (encStr N[k]=.string (zI N[k])):=rfl
    clear hst he
    generalize hnk:N[k]=nk at *
    generalize zI nk=nm at *
    generalize hol:xZ (N.take k) s.data.toList=ol at *
    clear hnk hol
    go_wp2_with (first
     | (at_builtin; refine wpList_append_own _ rfl _ _ 45 rfl w.heap.size 9 i0 (.string ⟨#[]⟩) 1 16 Tryz.underlying45 hi hz0 hz1 hz2 rfl (by decide) _ _ _ rfl (HU.out.alloc _) ⟨wr.heap.size,0,none⟩ 1 1 [.string nm] rfl rfl (fun j u hu=>by rw [Addr.add_lit,Nat.zero_add,World.cell?_alloc_at _ _ _ _ rfl]; simpa using hu) (by simp [Value.oneCell']) (by unfold maxLen; omega) (by omega) (by have:=HW.out.size; simp; omega) ?_; intro v2 w2 hown' hgrow _; have HO2:=za hown'; have HG2:=za hgrow; clear hown' hgrow)
     | fail)
    have R1:=za ((z8 HW.out (z7 (Below.refl _ _) _)).grown HG2.out (by have:=HW.out.size; simp; omega) (fun j hj=>(HU.out.lt j hj).1))
    have R2:Hid (w2.ownsRow w.heap.size 9 1 v2 (ol++[nk]).length ((ol++[nk]).map encStr)):=by
     have:=HO2.out
     show World.ownsRow _ _ _ _ _ _ _
     rw [List.length_append,List.map_append,List.map_singleton,HEN.out]
     exact this
    go_roundg (n - (k+1))
    case measure=>omega
    case rel=>exact ⟨k+1,by omega,by omega,by go_num,R1,(show Hid _ from by rw [HST.out]; exact R2.out)⟩
  ·
   have hltz:¬ (k:Int)<(n:Int):=by omega
   obtain rfl:k=n:=by omega
   have hu:=HU.out
   rw [List.take_of_length_le (by have:=HL.out; omega)] at hu
   have HF:Hid (NmR wr _ (xZ N s.data.toList)):=NmR.of hu
   clear hu
   go_wp2
   go_ret
   exact ⟨_,rfl,HF.out,HW.out⟩

theorem zh {W W':World} {B:Nat} {a b c d e:Value} (h:yf W B a b c d e) (hb:Below W.heap.size W W'):yf W' B a b c d e:=(hb.block B h.lt).trans h
theorem yf.put011 {w:World} {B:Nat} {a b c d e:Value} (h:yf w B a b c d e) (x:Value):yf (w.setCell ⟨B,0,none⟩ x) B x b c d e:=by
 have h':w.heap[B]? = some (.cells #[a,b,c,d,e] 47 (0,0)):=h
 simp [yf,World.setCell,Array.getElem?_modify,h']
theorem yf.put111 {w:World} {B:Nat} {a b c d e:Value} (h:yf w B a b c d e) (x:Value):yf (w.setCell ⟨B,1,none⟩ x) B a x c d e:=by
 have h':w.heap[B]? = some (.cells #[a,b,c,d,e] 47 (0,0)):=h
 simp [yf,World.setCell,Array.getElem?_modify,h']
theorem yf.put211 {w:World} {B:Nat} {a b c d e:Value} (h:yf w B a b c d e) (x:Value):yf (w.setCell ⟨B,2,none⟩ x) B a b x d e:=by
 have h':w.heap[B]? = some (.cells #[a,b,c,d,e] 47 (0,0)):=h
 simp [yf,World.setCell,Array.getElem?_modify,h']
theorem yf.put411 {w:World} {B:Nat} {a b c d e:Value} (h:yf w B a b c d e) (x:Value):yf (w.setCell ⟨B,4,none⟩ x) B a b c d x:=by
 have h':w.heap[B]? = some (.cells #[a,b,c,d,e] 47 (0,0)):=h
 simp [yf,World.setCell,Array.getElem?_modify,h']
theorem qL {w W:World} {B:Nat} {a b c d e:Value} (hb:Below w.heap.size w W) (hl:w.heap.size≤B) (h:yf W B a b c d e) (a' b' c' d' e':Value) :
  yf (set5 W B a' b' c' d' e') B a' b' c' d' e'∧Below w.heap.size w (set5 W B a' b' c' d' e')∧zR W W∧∀ v (N:List (List UInt8)),NmR W v N→NmR (set5 W B a' b' c' d' e') v N:=by
 have ht:zm (fun i=>i=B) W (set5 W B a' b' c' d' e'):=Zi (zm.refl (fun i=>i=B) W) B (fun _=>rfl) _ _ _ _ _
 refine ⟨h.set5 _ _ _ _ _,hb.trans (ht.below_at hb.size (fun i e=>by omega)),fun _ _ _ _ h _=>h,fun v N hn=>⟨hn.1,?_⟩⟩
 rcases hn.2 with hn | ⟨g,cap,cur,e1,h0,hg,hr⟩
 ·
  exact .inl hn
 ·
  have hne:g≠B:=fun e=>by
   subst e
   rw [show W.heap[g]? = _ from h] at hg
   injection hg with hg
   injection hg with _ h
   exact absurd h (by decide)
  exact .inr ⟨g,cap,cur,e1,h0,(ht.block g (Array.getElem?_eq_some_iff.1 hg).1 hne).trans hg,hr⟩

theorem vP.keepD11 {w w':World} {R:zL W11} {v:Value} (h:vP R w v) (hk:zR w w'):vP R w' v:=vt h hk (by decide)
def qG (R:zL W11) (s:ByteArray) (w:World) (e:Ending) (w':World):Prop :=
 ∃ t x,e=.returned (.tuple #[zV t x,.int .i64 (jD (zf s.data.toList) (zx R s.data.toList))])∧(jD (zf s.data.toList) (zx R s.data.toList)=0→t=s∧xJ R s.data.toList=some x)∧(jD (zf s.data.toList) (zx R s.data.toList)≠0→t=⟨#[]⟩∧x=Yc)∧Below w.heap.size w w'

set_option maxRecDepth 100000 in
theorem xR (v vg:Value) (R:zL W11) (N:List (List UInt8)) (s:ByteArray) (w:World) (hR:vQ 0 R w v) (hN:NmR w vg N) (h12:R.length≤12) (hr:zA R) (hs:s.size≤1000) :
  Calls Tryz.prog 143 #[.agg #[v,vg],.string s] w (qG R s w):=by
 have hnot:∀ (x:Bool) (w:World),(Op.unary .not (.bool x)).run Tryz.prog w=.ok (.bool (!x)) w:=fun _ _=>rfl
 have hzu:=uz
 obtain ⟨A,c,rfl⟩:=hR.rw.us.shape
 obtain ⟨A1,c1,rfl⟩:=hN.shape
 have HUS:=za hR.rw.us
 have HRI:=za hr
 have HN0:=za (fun W=>vf s W hs)
 have HF0:Hid (∀ W,Below w.heap.size w W→Calls Tryz.prog 216 #[.slice A R.length c,.string s] W (ZK R s.data.toList W)):=fun W hb=>qN A c R.length R s W rfl h12 (hR.rw.us.later hb)
 clear hN hR hr
 obtain ⟨n,hn⟩:∃ n,n=R.length:=⟨_,rfl⟩
 rw [← hn] at HUS HF0 h12 ⊢
 have HL:=za hn
 clear hn
 generalize N.length=n1 at *
 unfold qG
 cases hname:zf s.data.toList with
 | false =>
  rw [hname] at HN0
  clear hname HF0 HUS HRI
  show Calls _ _ _ _ fun e w'=>∃ t x,e=.returned (.tuple #[zV t x,.int .i64 10])∧((10:Int)=0→t=s∧xJ R s.data.toList=some x)∧((10:Int)≠0→t=⟨#[]⟩∧x=Yc)∧Below w.heap.size w w'
  have Hd1a:=za (zr w (.slice A n c) (.slice A1 n1 c1))
  have HLO2a:Hid (w.heap.size≤w.heap.size):=Nat.le_refl _
  have HB3a:Hid (Below w.heap.size w (w.alloc (.cells #[.slice A n c,.slice A1 n1 c1] zn))):=z7 (Below.refl _ _) _
  have Hd4a:=za (Hd1a.out.later (z7 (Below.refl _ _) (.cells #[.string ⟨#[]⟩,.string ⟨#[]⟩,.string ⟨#[]⟩,.bool false,.slice none 0 0] 47)))
  have Hr5a:Hid (yf ((w.alloc (.cells #[.slice A n c,.slice A1 n1 c1] zn)).alloc (.cells #[.string ⟨#[]⟩,.string ⟨#[]⟩,.string ⟨#[]⟩,.bool false,.slice none 0 0] 47)) (w.heap.size+1) (.string ⟨#[]⟩) (.string ⟨#[]⟩) (.string ⟨#[]⟩) (.bool false) (.slice none 0 0)):=zi (by simp)
  have HLO6a:Hid (w.heap.size≤w.heap.size+1):=by have:=HB3a.out.size; show _≤_; simp at this; omega
  have HB7a:=za (z8 HB3a.out (z7 (Below.refl _ _) (.cells #[.string ⟨#[]⟩,.string ⟨#[]⟩,.string ⟨#[]⟩,.bool false,.slice none 0 0] 47)))
  go_enter Tryz.func143,Tryz.ntmps143
  have ⟨kx9a,ky10a,kp11a,kq12a⟩:=Hd4a.out.q11
  have hr13a:=Hr5a.out
  have kf14a:=hr13a.free
  have kc15a:_=some (.string ⟨#[]⟩:Value):=hr13a.at_ 0
  have kc16a:_=some (.string ⟨#[]⟩:Value):=hr13a.at_ 1
  have kc17a:_=some (.string ⟨#[]⟩:Value):=hr13a.at_ 2
  have kc18a:_=some (.bool false:Value):=hr13a.at_ 3
  have kc19a:_=some (.slice none 0 0:Value):=hr13a.at_ 4
  clear hr13a
  go_wp2_with fail
  generalize (w.alloc (.cells #[.slice A n c,.slice A1 n1 c1] zn)).alloc (.cells #[.string ⟨#[]⟩,.string ⟨#[]⟩,.string ⟨#[]⟩,.bool false,.slice none 0 0] 47)=wg20a at *
  with_reducible refine (HN0.out _).mono ?_
  rintro e wn ⟨rfl,hw⟩
  replace hw:=hw.symm
  subst hw
  clear kx9a ky10a kp11a kq12a kf14a kc15a kc16a kc17a kc18a kc19a
  have ⟨kx22a,ky23a,kp24a,kq25a⟩:=Hd4a.out.q11
  have hr26a:=Hr5a.out
  have kf27a:=hr26a.free
  have kc28a:_=some (.string ⟨#[]⟩:Value):=hr26a.at_ 0
  have kc29a:_=some (.string ⟨#[]⟩:Value):=hr26a.at_ 1
  have kc30a:_=some (.string ⟨#[]⟩:Value):=hr26a.at_ 2
  have kc31a:_=some (.bool false:Value):=hr26a.at_ 3
  have kc32a:_=some (.slice none 0 0:Value):=hr26a.at_ 4
  clear hr26a
  have HS:=qL HB7a.out HLO6a.out Hr5a.out (.string ⟨#[]⟩) (.string ⟨#[]⟩) (.string ⟨#[]⟩) (.bool false) (.slice none 0 0)
  have z0:_=some (.string ⟨#[]⟩:Value):=HS.1.at_ 0
  have z1:_=some (.string ⟨#[]⟩:Value):=HS.1.at_ 1
  have z2:_=some (.string ⟨#[]⟩:Value):=HS.1.at_ 2
  have z3:_=some (.bool false:Value):=HS.1.at_ 3
  have z4:_=some (.slice none 0 0:Value):=HS.1.at_ 4
  have HPOST:=za (show ∃ t x,Ending.returned (.tuple #[.agg #[.string ⟨#[]⟩,.string ⟨#[]⟩,.string ⟨#[]⟩,.bool false,.slice none 0 0],.int .i64 10])=.returned (.tuple #[zV t x,.int .i64 10])∧((10:Int)=0→t=s∧xJ R s.data.toList=some x)∧((10:Int)≠0→t=⟨#[]⟩∧x=Yc)∧Below w.heap.size w _ from ⟨⟨#[]⟩,Yc,rfl,fun h=>absurd h (by decide),fun _=>⟨rfl,rfl⟩,HS.2.1⟩)
  unfold set5 at z0 z1 z2 z3 z4 HPOST
  clear HS
  go_wp2
  refine bodyPost_ret (v:=.tuple #[.agg #[.string ⟨#[]⟩,.string ⟨#[]⟩,.string ⟨#[]⟩,.bool false,.slice none 0 0],.int .i64 10]) ?_ rfl HPOST.out
  simp [results,Tryz.results143,go_sem,z0,z1,z2,z3,z4]
 | true =>
  rw [hname] at HN0
  clear hname
  cases hh:zx R s.data.toList with
  | false =>
   have HHH:=za hh
   clear hh
   show Calls _ _ _ _ fun e w'=>∃ t x,e=.returned (.tuple #[zV t x,.int .i64 8])∧((8:Int)=0→t=s∧xJ R s.data.toList=some x)∧((8:Int)≠0→t=⟨#[]⟩∧x=Yc)∧Below w.heap.size w w'
   have Hd1b:=za (zr w (.slice A n c) (.slice A1 n1 c1))
   have HLO2b:Hid (w.heap.size≤w.heap.size):=Nat.le_refl _
   have HB3b:Hid (Below w.heap.size w (w.alloc (.cells #[.slice A n c,.slice A1 n1 c1] zn))):=z7 (Below.refl _ _) _
   have Hd4b:=za (Hd1b.out.later (z7 (Below.refl _ _) (.cells #[.string ⟨#[]⟩,.string ⟨#[]⟩,.string ⟨#[]⟩,.bool false,.slice none 0 0] 47)))
   have Hr5b:Hid (yf ((w.alloc (.cells #[.slice A n c,.slice A1 n1 c1] zn)).alloc (.cells #[.string ⟨#[]⟩,.string ⟨#[]⟩,.string ⟨#[]⟩,.bool false,.slice none 0 0] 47)) (w.heap.size+1) (.string ⟨#[]⟩) (.string ⟨#[]⟩) (.string ⟨#[]⟩) (.bool false) (.slice none 0 0)):=zi (by simp)
   have HLO6b:Hid (w.heap.size≤w.heap.size+1):=by have:=HB3b.out.size; show _≤_; simp at this; omega
   have HB7b:=za (z8 HB3b.out (z7 (Below.refl _ _) (.cells #[.string ⟨#[]⟩,.string ⟨#[]⟩,.string ⟨#[]⟩,.bool false,.slice none 0 0] 47)))
   go_enter Tryz.func143,Tryz.ntmps143
   have ⟨kx9b,ky10b,kp11b,kq12b⟩:=Hd4b.out.q11
   have hr13b:=Hr5b.out
   have kf14b:=hr13b.free
   have kc15b:_=some (.string ⟨#[]⟩:Value):=hr13b.at_ 0
   have kc16b:_=some (.string ⟨#[]⟩:Value):=hr13b.at_ 1
   have kc17b:_=some (.string ⟨#[]⟩:Value):=hr13b.at_ 2
   have kc18b:_=some (.bool false:Value):=hr13b.at_ 3
   have kc19b:_=some (.slice none 0 0:Value):=hr13b.at_ 4
   clear hr13b
   go_wp2_with fail
   generalize (w.alloc (.cells #[.slice A n c,.slice A1 n1 c1] zn)).alloc (.cells #[.string ⟨#[]⟩,.string ⟨#[]⟩,.string ⟨#[]⟩,.bool false,.slice none 0 0] 47)=wg20b at *
   with_reducible refine (HN0.out _).mono ?_
   rintro e wn ⟨rfl,hw⟩
   replace hw:=hw.symm
   subst hw
   clear kx9b ky10b kp11b kq12b kf14b kc15b kc16b kc17b kc18b kc19b
   have ⟨kx22b,ky23b,kp24b,kq25b⟩:=Hd4b.out.q11
   have hr26b:=Hr5b.out
   have kf27b:=hr26b.free
   have kc28b:_=some (.string ⟨#[]⟩:Value):=hr26b.at_ 0
   have kc29b:_=some (.string ⟨#[]⟩:Value):=hr26b.at_ 1
   have kc30b:_=some (.string ⟨#[]⟩:Value):=hr26b.at_ 2
   have kc31b:_=some (.bool false:Value):=hr26b.at_ 3
   have kc32b:_=some (.slice none 0 0:Value):=hr26b.at_ 4
   clear hr26b
   go_wp2_with fail
   with_reducible refine (HF0.out wg20b HB7b.out).mono ?_
   rintro e w3 ⟨r,rfl,hfound,hb⟩
   clear kx22b ky23b kp24b kq25b kf27b kc28b kc29b kc30b kc31b kc32b
   have Hd33b:=za (Hd4b.out.later hb)
   have Hr34b:=za (zh Hr5b.out hb)
   have HB35b:=za (z8 HB7b.out hb)
   clear hb
   obtain rfl:r=-1:=by
    rcases hfound with ⟨_,h⟩ | ⟨h,_⟩
    ·
     exact h
    ·
     rw [HHH.out] at h; cases h
   clear hfound HF0 HUS HRI HHH
   have ⟨kx37b,ky38b,kp39b,kq40b⟩:=Hd33b.out.q11
   have hr41b:=Hr34b.out
   have kf42b:=hr41b.free
   have kc43b:_=some (.string ⟨#[]⟩:Value):=hr41b.at_ 0
   have kc44b:_=some (.string ⟨#[]⟩:Value):=hr41b.at_ 1
   have kc45b:_=some (.string ⟨#[]⟩:Value):=hr41b.at_ 2
   have kc46b:_=some (.bool false:Value):=hr41b.at_ 3
   have kc47b:_=some (.slice none 0 0:Value):=hr41b.at_ 4
   clear hr41b
   have HS:=qL HB35b.out HLO6b.out Hr34b.out (.string ⟨#[]⟩) (.string ⟨#[]⟩) (.string ⟨#[]⟩) (.bool false) (.slice none 0 0)
   have z0:_=some (.string ⟨#[]⟩:Value):=HS.1.at_ 0
   have z1:_=some (.string ⟨#[]⟩:Value):=HS.1.at_ 1
   have z2:_=some (.string ⟨#[]⟩:Value):=HS.1.at_ 2
   have z3:_=some (.bool false:Value):=HS.1.at_ 3
   have z4:_=some (.slice none 0 0:Value):=HS.1.at_ 4
   have HPOST:=za (show ∃ t x,Ending.returned (.tuple #[.agg #[.string ⟨#[]⟩,.string ⟨#[]⟩,.string ⟨#[]⟩,.bool false,.slice none 0 0],.int .i64 8])=.returned (.tuple #[zV t x,.int .i64 8])∧((8:Int)=0→t=s∧xJ R s.data.toList=some x)∧((8:Int)≠0→t=⟨#[]⟩∧x=Yc)∧Below w.heap.size w _ from ⟨⟨#[]⟩,Yc,rfl,fun h=>absurd h (by decide),fun _=>⟨rfl,rfl⟩,HS.2.1⟩)
   unfold set5 at z0 z1 z2 z3 z4 HPOST
   clear HS
   go_wp2
   refine bodyPost_ret (v:=.tuple #[.agg #[.string ⟨#[]⟩,.string ⟨#[]⟩,.string ⟨#[]⟩,.bool false,.slice none 0 0],.int .i64 8]) ?_ rfl HPOST.out
   simp [results,Tryz.results143,go_sem,z0,z1,z2,z3,z4]
  | true =>
   have HHH:=za hh
   clear hh
   show Calls _ _ _ _ fun e w'=>∃ t x,e=.returned (.tuple #[zV t x,.int .i64 0])∧((0:Int)=0→t=s∧xJ R s.data.toList=some x)∧((0:Int)≠0→t=⟨#[]⟩∧x=Yc)∧Below w.heap.size w w'
   have Hd1c:=za (zr w (.slice A n c) (.slice A1 n1 c1))
   have HLO2c:Hid (w.heap.size≤w.heap.size):=Nat.le_refl _
   have HB3c:Hid (Below w.heap.size w (w.alloc (.cells #[.slice A n c,.slice A1 n1 c1] zn))):=z7 (Below.refl _ _) _
   have Hd4c:=za (Hd1c.out.later (z7 (Below.refl _ _) (.cells #[.string ⟨#[]⟩,.string ⟨#[]⟩,.string ⟨#[]⟩,.bool false,.slice none 0 0] 47)))
   have Hr5c:Hid (yf ((w.alloc (.cells #[.slice A n c,.slice A1 n1 c1] zn)).alloc (.cells #[.string ⟨#[]⟩,.string ⟨#[]⟩,.string ⟨#[]⟩,.bool false,.slice none 0 0] 47)) (w.heap.size+1) (.string ⟨#[]⟩) (.string ⟨#[]⟩) (.string ⟨#[]⟩) (.bool false) (.slice none 0 0)):=zi (by simp)
   have HLO6c:Hid (w.heap.size≤w.heap.size+1):=by have:=HB3c.out.size; show _≤_; simp at this; omega
   have HB7c:=za (z8 HB3c.out (z7 (Below.refl _ _) (.cells #[.string ⟨#[]⟩,.string ⟨#[]⟩,.string ⟨#[]⟩,.bool false,.slice none 0 0] 47)))
   go_enter Tryz.func143,Tryz.ntmps143
   have ⟨kx9c,ky10c,kp11c,kq12c⟩:=Hd4c.out.q11
   have hr13c:=Hr5c.out
   have kf14c:=hr13c.free
   have kc15c:_=some (.string ⟨#[]⟩:Value):=hr13c.at_ 0
   have kc16c:_=some (.string ⟨#[]⟩:Value):=hr13c.at_ 1
   have kc17c:_=some (.string ⟨#[]⟩:Value):=hr13c.at_ 2
   have kc18c:_=some (.bool false:Value):=hr13c.at_ 3
   have kc19c:_=some (.slice none 0 0:Value):=hr13c.at_ 4
   clear hr13c
   go_wp2_with fail
   generalize (w.alloc (.cells #[.slice A n c,.slice A1 n1 c1] zn)).alloc (.cells #[.string ⟨#[]⟩,.string ⟨#[]⟩,.string ⟨#[]⟩,.bool false,.slice none 0 0] 47)=wg20c at *
   with_reducible refine (HN0.out _).mono ?_
   rintro e wn ⟨rfl,hw⟩
   replace hw:=hw.symm
   subst hw
   clear kx9c ky10c kp11c kq12c kf14c kc15c kc16c kc17c kc18c kc19c
   have ⟨kx22c,ky23c,kp24c,kq25c⟩:=Hd4c.out.q11
   have hr26c:=Hr5c.out
   have kf27c:=hr26c.free
   have kc28c:_=some (.string ⟨#[]⟩:Value):=hr26c.at_ 0
   have kc29c:_=some (.string ⟨#[]⟩:Value):=hr26c.at_ 1
   have kc30c:_=some (.string ⟨#[]⟩:Value):=hr26c.at_ 2
   have kc31c:_=some (.bool false:Value):=hr26c.at_ 3
   have kc32c:_=some (.slice none 0 0:Value):=hr26c.at_ 4
   clear hr26c
   go_wp2_with fail
   with_reducible refine (HF0.out wg20c HB7c.out).mono ?_
   rintro e w3 ⟨r,rfl,hfound,hb⟩
   clear kx22c ky23c kp24c kq25c kf27c kc28c kc29c kc30c kc31c kc32c
   have Hd33c:=za (Hd4c.out.later hb)
   have Hr34c:=za (zh Hr5c.out hb)
   have HB35c:=za (z8 HB7c.out hb)
   clear hb
   obtain ⟨i,hil,rfl,hin⟩:∃ i:Nat,∃ h:i<R.length,r=i∧R[i].1=s.data.toList:=by
    rcases hfound with ⟨h,_⟩ | ⟨_,h⟩
    ·
     rw [HHH.out] at h; cases h
    ·
     exact h
   obtain ⟨g,rfl,c0,c1,c2,c3,c4⟩:=(HUS.out.later HB35c.out).at_ i hil
   have hin':zI R[i].1=s:=by rw [hin,xo]
   rw [hin'] at c0
   have HG:Hid (xJ R s.data.toList=some R[i].2):=(zH HRI.out).2 (by rw [← hin]; exact List.getElem_mem hil)
   have hltz:(i:Int)<(n:Int):=by have:=HL.out; omega
   have y1:¬ (i:Int)<0:=by omega
   have y2:(0:Int)≤(i:Int):=by omega
   have y4:decide ((i:Int)<0)=false:=decide_eq_false y1
   clear hfound HF0 HUS HRI HHH hin hin'
   generalize R[i].2=xx at *
   obtain ⟨xh,xm,xd,xa,xg,xc⟩:=xx
   dsimp only at c1 c2 c3 c4
   generalize hxl:xg.length=xl at c4
   have HXL:=za hxl
   clear hil hxl
   have ⟨kx37c,ky38c,kp39c,kq40c⟩:=Hd33c.out.q11
   have hr41c:=Hr34c.out
   have kf42c:=hr41c.free
   have kc43c:_=some (.string ⟨#[]⟩:Value):=hr41c.at_ 0
   have kc44c:_=some (.string ⟨#[]⟩:Value):=hr41c.at_ 1
   have kc45c:_=some (.string ⟨#[]⟩:Value):=hr41c.at_ 2
   have kc46c:_=some (.bool false:Value):=hr41c.at_ 3
   have kc47c:_=some (.slice none 0 0:Value):=hr41c.at_ 4
   clear hr41c
   have HS:=qL HB35c.out HLO6c.out Hr34c.out (.string s) (.string xh) (.string xm) (.bool xd) (.slice xa xl xc)
   have z0:_=some (.string s:Value):=HS.1.at_ 0
   have z1:_=some (.string xh:Value):=HS.1.at_ 1
   have z2:_=some (.string xm:Value):=HS.1.at_ 2
   have z3:_=some (.bool xd:Value):=HS.1.at_ 3
   have z4:_=some (.slice xa xl xc:Value):=HS.1.at_ 4
   have HPOST:=za (show ∃ t x,Ending.returned (.tuple #[.agg #[.string s,.string xh,.string xm,.bool xd,.slice xa xl xc],.int .i64 0])=.returned (.tuple #[zV t x,.int .i64 0])∧((0:Int)=0→t=s∧xJ R s.data.toList=some x)∧((0:Int)≠0→t=⟨#[]⟩∧x=Yc)∧Below w.heap.size w _ from ⟨s,⟨xh,xm,xd,xa,xg,xc⟩,by unfold zV; rw [HXL.out],fun _=>⟨rfl,HG.out⟩,fun h=>absurd rfl h,HS.2.1⟩)
   unfold set5 at z0 z1 z2 z3 z4 HPOST
   clear HS
   go_wp2
   refine bodyPost_ret (v:=.tuple #[.agg #[.string s,.string xh,.string xm,.bool xd,.slice xa xl xc],.int .i64 0]) ?_ rfl HPOST.out
   simp [results,Tryz.results143,go_sem,z0,z1,z2,z3,z4]

set_option maxRecDepth 100000 in
theorem vp (v vg:Value) (R:zL W11) (N:List (List UInt8)) (s:ByteArray) (x:W11) (w:World) (hR:vP R w v) (hN:NmR w vg N) (h12:R.length≤12) (hr:zA R) :
  Calls Tryz.prog 145 #[.agg #[v,vg],zV s x] w fun e w'=>∃ v',e=.returned (.agg #[v',vg])∧vP (zP R s.data.toList x) w' v'∧Below w.heap.size w w':=by
 obtain ⟨A,c,rfl⟩:=hR.us.shape
 obtain ⟨A1,c1,rfl⟩:=hN.shape
 have HP0:Hid (∀ W,Below w.heap.size w W→Calls Tryz.prog 150 #[.slice A R.length c,.agg #[.string s,.string x.hs,.string x.ml,.bool x.dis,.slice x.ga x.gs.length x.gc]] W fun e w'=>∃ v,e=.returned v∧vP (zP R s.data.toList x) w' v∧Below W.heap.size W w'):=fun W hb=>jg A c R.length R s x W rfl h12 hr (hR.us.later hb)
 unfold zV
 clear hN hR hr
 generalize zP R s.data.toList x=R' at *
 obtain ⟨xh,xm,xd,xa,xg,xc⟩:=x
 dsimp only at *
 generalize R.length=n at *
 generalize N.length=n1 at *
 generalize xg.length=xl at *
 have Hd1p:=za (zr w (.slice A n c) (.slice A1 n1 c1))
 have HLO2p:Hid (w.heap.size≤w.heap.size):=Nat.le_refl _
 have HB3p:Hid (Below w.heap.size w (w.alloc (.cells #[.slice A n c,.slice A1 n1 c1] zn))):=z7 (Below.refl _ _) _
 have Hd4p:=za (Hd1p.out.later (z7 (Below.refl _ _) (.cells #[.string s,.string xh,.string xm,.bool xd,.slice xa xl xc] 47)))
 have Hu5p:Hid (yf ((w.alloc (.cells #[.slice A n c,.slice A1 n1 c1] zn)).alloc (.cells #[.string s,.string xh,.string xm,.bool xd,.slice xa xl xc] 47)) (w.heap.size+1) (.string s) (.string xh) (.string xm) (.bool xd) (.slice xa xl xc)):=zi (by simp)
 have HLO6p:Hid (w.heap.size≤w.heap.size+1):=by have:=HB3p.out.size; show _≤_; simp at this; omega
 have HB7p:=za (z8 HB3p.out (z7 (Below.refl _ _) (.cells #[.string s,.string xh,.string xm,.bool xd,.slice xa xl xc] 47)))
 have Hd8p:=za (Hd4p.out.later (z7 (Below.refl _ _) (.cells #[.slice none 0 0,.slice none 0 0] zn)))
 have Hu9p:=za (zh Hu5p.out (z7 (Below.refl _ _) (.cells #[.slice none 0 0,.slice none 0 0] zn)))
 have Hr10p:Hid (yv (((w.alloc (.cells #[.slice A n c,.slice A1 n1 c1] zn)).alloc (.cells #[.string s,.string xh,.string xm,.bool xd,.slice xa xl xc] 47)).alloc (.cells #[.slice none 0 0,.slice none 0 0] zn)) (w.heap.size+2) (.slice none 0 0) (.slice none 0 0)):=zi (by simp)
 have HLO11p:Hid (w.heap.size≤w.heap.size+2):=by have:=HB7p.out.size; show _≤_; simp at this; omega
 have HB12p:=za (z8 HB7p.out (z7 (Below.refl _ _) (.cells #[.slice none 0 0,.slice none 0 0] zn)))
 go_enter Tryz.func145,Tryz.ntmps145
 have ⟨kx14p,ky15p,kp16p,kq17p⟩:=Hd8p.out.q11
 have hu18p:=Hu9p.out
 have kf19p:=hu18p.free
 have kc20p:_=some (.string s:Value):=hu18p.at_ 0
 have kc21p:_=some (.string xh:Value):=hu18p.at_ 1
 have kc22p:_=some (.string xm:Value):=hu18p.at_ 2
 have kc23p:_=some (.bool xd:Value):=hu18p.at_ 3
 have kc24p:_=some (.slice xa xl xc:Value):=hu18p.at_ 4
 clear hu18p
 have ⟨kx26p,ky27p,kp28p,kq29p⟩:=Hr10p.out.q11
 go_wp2_with fail
 generalize ((w.alloc (.cells #[.slice A n c,.slice A1 n1 c1] zn)).alloc (.cells #[.string s,.string xh,.string xm,.bool xd,.slice xa xl xc] 47)).alloc (.cells #[.slice none 0 0,.slice none 0 0] zn)=wg30p at *
 with_reducible refine (HP0.out wg30p HB12p.out).mono ?_
 rintro e w3 ⟨v,rfl,hp,hb⟩
 clear kx14p ky15p kp16p kq17p kf19p kc20p kc21p kc22p kc23p kc24p kx26p ky27p kp28p kq29p
 have Hd31p:=za (Hd8p.out.later hb)
 have Hu32p:=za (zh Hu9p.out hb)
 have Hr33p:=za (Hr10p.out.later hb)
 have HB34p:=za (z8 HB12p.out hb)
 obtain ⟨A3,c3,rfl⟩:=hp.us.shape
 have HP:=za hp
 clear hp
 generalize R'.length=n3 at *
 clear hb
 have ⟨kx36p,ky37p,kp38p,kq39p⟩:=Hd31p.out.q11
 have hu40p:=Hu32p.out
 have kf41p:=hu40p.free
 have kc42p:_=some (.string s:Value):=hu40p.at_ 0
 have kc43p:_=some (.string xh:Value):=hu40p.at_ 1
 have kc44p:_=some (.string xm:Value):=hu40p.at_ 2
 have kc45p:_=some (.bool xd:Value):=hu40p.at_ 3
 have kc46p:_=some (.slice xa xl xc:Value):=hu40p.at_ 4
 clear hu40p
 have ⟨kx48p,ky49p,kp50p,kq51p⟩:=Hr33p.out.q11
 have Hd52p:=za (Hd31p.out.set0 (.slice A3 n3 c3))
 have Hu53p:=za (Hu32p.out.other (C:=w.heap.size) (j:=0) (by omega) (.slice A3 n3 c3))
 have Hr54p:=za (Hr33p.out.other (c:=w.heap.size) (i:=0) (by omega) (.slice A3 n3 c3))
 have HB55p:=za (HB34p.out.setCell (p:=⟨w.heap.size,0,none⟩) HLO2p.out (.slice A3 n3 c3))
 have ⟨kx57p,ky58p,kp59p,kq60p⟩:=Hd52p.out.q11
 have hu61p:=Hu53p.out
 have kf62p:=hu61p.free
 have kc63p:_=some (.string s:Value):=hu61p.at_ 0
 have kc64p:_=some (.string xh:Value):=hu61p.at_ 1
 have kc65p:_=some (.string xm:Value):=hu61p.at_ 2
 have kc66p:_=some (.bool xd:Value):=hu61p.at_ 3
 have kc67p:_=some (.slice xa xl xc:Value):=hu61p.at_ 4
 clear hu61p
 have ⟨kx69p,ky70p,kp71p,kq72p⟩:=Hr54p.out.q11
 have HS:=yt HB55p.out Hr54p.out HLO11p.out (.slice A3 n3 c3) (.slice A1 n1 c1)
 have z0:=HS.1.c0
 have z1:=HS.1.c1
 have HKD:Hid (zR w3 (w3.setCell ⟨w.heap.size,0,none⟩ (.slice A3 n3 c3))):=Hd31p.out.keep 0 _
 have HPOST:=za (show ∃ v',Ending.returned (.agg #[.slice A3 n3 c3,.slice A1 n1 c1])=.returned (.agg #[v',.slice A1 n1 c1])∧vP R' _ v'∧Below w.heap.size w _ from ⟨_,rfl,(HP.out.keepD11 (HKD.out.trans HS.2.2)),HS.2.1⟩)
 clear HS
 go_wp2
 refine bodyPost_ret (v:=.agg #[.slice A3 n3 c3,.slice A1 n1 c1]) ?_ rfl HPOST.out
 simp [results,Tryz.results145,go_sem,z0,z1]
end Go.Proofs.YthmomkjingcbiaaGreatDoor
namespace Go.Proofs.YthmomkjingcbiaaGreatDoor
open Go.RowKit Go.Maps Go.Sort Go.Shelf
set_option linter.unusedVariables false

def uk (G:List ByteArray):List (List UInt8):=G.map (·.data.toList)

def xX (G:List ByteArray) (pre:List Us) (u:Us):Int :=
 if u.gs.all (fun g=>vl (uk G) g.data.toList) then (if pre.any (fun v=>!(u.ml.data.toList == []) && (u.ml.data.toList == v.ml.data.toList)) then 9 else 0) else 8
def xe (G:List ByteArray):List Us→List Us→Int
 | _,[]=>0
 | pre,u::r=>if xX G pre u=0 then xe G (pre++[u]) r else xX G pre u
def uR (l:List Us) (G:List ByteArray):Int :=
 if X5 l=0 then (if yy G then (if zX G then (if G.length≤6 then xe G [] l else 7) else 9) else 10) else X5 l
theorem restD_step {G:List ByteArray} {l:List Us} {k:Nat} (hk:k<l.length):xe G (l.take k) (l.drop k)=if xX G (l.take k) l[k]=0 then xe G (l.take (k+1)) (l.drop (k+1)) else xX G (l.take k) l[k]:=by
 rw [List.drop_eq_getElem_cons hk,List.take_succ_eq_append_getElem hk]
 rfl

end Go.Proofs.YthmomkjingcbiaaGreatDoor
namespace Go.Proofs.YthmomkjingcbiaaGreatDoor
open Go.RowKit Go.Maps Go.Shelf
set_option linter.unusedSectionVars false

def MkA11 (A:zJ) (W:World) (v:Value) (F:Nat→Prop):Prop:=∃ b,v=.map (some b)∧yG W b A∧F b
def MkM11 (L:zB) (W:World) (v:Value) (F:Nat→Prop):Prop:=∃ M p q LM,v=.pointer (some ⟨M,0,none⟩)∧vE W M p q L LM∧∀ i,jt M p q i→F i
def MkG11 (S:zw) (W:World) (v:Value) (F:Nat→Prop):Prop:=∃ G pg T,v=.pointer (some ⟨G,0,none⟩)∧zT W G pg T∧zj T=S∧∀ i,ju G pg T i→F i
def XO (w W:World) (A:zJ) (L:zB) (S:zw) (P M G:Nat):Prop :=
 ∃ p q LM pg T,yG W P A∧vE W M p q L LM∧zT W G pg T∧zj T=S∧(∀ i,jt M p q i→i≠P)∧(∀ i,ju G pg T i→i≠P)∧(∀ i,jt M p q i→ju G pg T i→False)∧(∀ i,i=P∨jt M p q i∨ju G pg T i→w.heap.size≤i)
def YCo11 (D P M G:Nat):Nat→Value→Prop
 | 3,v=>v=.map (some P)
 | 7,v=>v=.pointer (some ⟨D,1,none⟩)
 | 8,v=>v=.pointer (some ⟨M,0,none⟩)
 | 12,v=>v=.pointer (some ⟨D,2,none⟩)
 | 13,v=>v=.pointer (some ⟨G,0,none⟩)
 | 4,_=>True
 | 9,_=>True
 | 14,_=>True
 | 15,_=>True
 | 16,_=>True
 | 17,_=>True
 | _,v=>v=.pointer (some ⟨D,0,none⟩)
structure Co11 [Fr11] (w:World) (D P M G:Nat) (A:zJ) (L:zB) (S:zw) (E:Nat→Bool) (x:Nat→Value) (W:World):Prop where
 b:Below w.heap.size w W
 y:∀ {j:Nat},E j=true→YCo11 D P M G j (x j)
 f:∃ F4 F9 F14:Nat→Prop,(E 4=true→MkA11 A W (x 4) F4)∧(E 9=true→MkM11 L W (x 9) F9)∧(E 14=true→MkG11 S W (x 14) F14) ∧
  (∀ i,F4 i∨F9 i∨F14 i→w.heap.size≤i∧i<W.heap.size)∧(∀ i,F4 i→F9 i→False)∧(∀ i,F4 i→F14 i→False)∧(∀ i,F9 i→F14 i→False)
 y15:E 15=true→∃ P' M' G',x 15=.agg #[.map (some P'),.pointer (some ⟨M',0,none⟩),.pointer (some ⟨G',0,none⟩)]∧XO w W A L S P' M' G'
 y16:E 16=true→∃ D' P' M' G',x 16=.pointer (some ⟨D',0,none⟩)∧zo w W D' P' M' G' A L S
 y17:E 17=true→∃ D' P' M' G',x 17=.pointer (some ⟨D',0,none⟩)∧zo w W D' P' M' G' A L S

section
variable [Fr11] {w W W':World} {D P M G:Nat} {A:zJ} {L:zB} {S:zw} {E:Nat→Bool} {x:Nat→Value}
theorem XO.later {P' M' G':Nat} (h:XO w W A L S P' M' G') (hb:Below W.heap.size W W'):XO w W' A L S P' M' G':=by
 obtain ⟨p,q,LM,pg,T,h1,h2,h3,h4⟩:=h
 exact ⟨p,q,LM,pg,T,h1.kept (hb.block _ h1.lt),h2.later hb,h3.later hb,h4⟩
theorem MkA11.later {v:Value} {F:Nat→Prop} (h:MkA11 A W v F) (hb:Below W.heap.size W W'):MkA11 A W' v F:=by
 obtain ⟨b,e,h1,h2⟩:=h
 exact ⟨b,e,h1.kept (hb.block _ h1.lt),h2⟩
theorem MkM11.later {v:Value} {F:Nat→Prop} (h:MkM11 L W v F) (hb:Below W.heap.size W W'):MkM11 L W' v F:=by
 obtain ⟨M,p,q,LM,e,h1,h2⟩:=h
 exact ⟨M,p,q,LM,e,h1.later hb,h2⟩
theorem MkG11.later {v:Value} {F:Nat→Prop} (h:MkG11 S W v F) (hb:Below W.heap.size W W'):MkG11 S W' v F:=by
 obtain ⟨G,pg,T,e,h1,h2⟩:=h
 exact ⟨G,pg,T,e,h1.later hb,h2⟩
theorem uA {x:Nat→Value} {i:Nat} {v:Value}:upd x i v i=v:=if_pos rfl
theorem vG {x:Nat→Value} {i j:Nat} {v:Value} (h:j≠i):upd x i v j=x j:=if_neg h
theorem xP {E:Nat→Bool} {i j:Nat} (h:j≠i):vF E i j=E j:=if_neg h
theorem Co11.more (h:Co11 w D P M G A L S E x W) (i:Nat) (v:Value) (hb:Below W.heap.size W W') (hy:YCo11 D P M G i v)
  (h4:i=4→MkA11 A W' v (fun j=>W.heap.size≤j∧j<W'.heap.size)) (h9:i=9→MkM11 L W' v (fun j=>W.heap.size≤j∧j<W'.heap.size)) (h14:i=14→MkG11 S W' v (fun j=>W.heap.size≤j∧j<W'.heap.size))
  (h15:i=15→∃ P' M' G',v=.agg #[.map (some P'),.pointer (some ⟨M',0,none⟩),.pointer (some ⟨G',0,none⟩)]∧XO w W' A L S P' M' G') (h16:i=16→∃ D' P' M' G',v=.pointer (some ⟨D',0,none⟩)∧zo w W' D' P' M' G' A L S) (h17:i=17→∃ D' P' M' G',v=.pointer (some ⟨D',0,none⟩)∧zo w W' D' P' M' G' A L S) :
  Co11 w D P M G A L S (vF E i) (upd x i v) W':=by
 refine ⟨z8 h.b hb,fun {j} hd=>?_,?_,fun hd=>?_,fun hd=>?_,fun hd=>?_⟩
 ·
  by_cases e:j=i
  ·
   subst e; rw [uA]; exact hy
  ·
   rw [vG e]; rw [xP e] at hd; exact h.y hd
 ·
  obtain ⟨F4,F9,F14,g4,g9,g14,hr,d1,d2,d3⟩:=h.f
  have hs:=hb.size
  have hw:=h.b.size
  by_cases i4:i=4
  ·
   subst i4
   refine ⟨(fun j=>W.heap.size≤j∧j<W'.heap.size),F9,F14,fun _=>by rw [uA]; exact h4 rfl,fun hd=>?_,fun hd=>?_,?_,?_,?_,d3⟩
   ·
    rw [vG (by decide)]; rw [xP (by decide)] at hd; exact (g9 hd).later hb
   ·
    rw [vG (by decide)]; rw [xP (by decide)] at hd; exact (g14 hd).later hb
   ·
    rintro j (h1 | h1 | h1)
    ·
     omega
    ·
     have:=hr j (.inr (.inl h1)); omega
    ·
     have:=hr j (.inr (.inr h1)); omega
   ·
    intro j h1 h2; have:=hr j (.inr (.inl h2)); omega
   ·
    intro j h1 h2; have:=hr j (.inr (.inr h2)); omega
  ·
   by_cases i9:i=9
   ·
    subst i9
    refine ⟨F4,(fun j=>W.heap.size≤j∧j<W'.heap.size),F14,fun hd=>?_,fun _=>by rw [uA]; exact h9 rfl,fun hd=>?_,?_,?_,d2,?_⟩
    ·
     rw [vG (by decide)]; rw [xP (by decide)] at hd; exact (g4 hd).later hb
    ·
     rw [vG (by decide)]; rw [xP (by decide)] at hd; exact (g14 hd).later hb
    ·
     rintro j (h1 | h1 | h1)
     ·
      have:=hr j (.inl h1); omega
     ·
      omega
     ·
      have:=hr j (.inr (.inr h1)); omega
    ·
     intro j h1 h2; have:=hr j (.inl h1); omega
    ·
     intro j h1 h2; have:=hr j (.inr (.inr h2)); omega
   ·
    by_cases i14:i=14
    ·
     subst i14
     refine ⟨F4,F9,(fun j=>W.heap.size≤j∧j<W'.heap.size),fun hd=>?_,fun hd=>?_,fun _=>by rw [uA]; exact h14 rfl,?_,d1,?_,?_⟩
     ·
      rw [vG (by decide)]; rw [xP (by decide)] at hd; exact (g4 hd).later hb
     ·
      rw [vG (by decide)]; rw [xP (by decide)] at hd; exact (g9 hd).later hb
     ·
      rintro j (h1 | h1 | h1)
      ·
       have:=hr j (.inl h1); omega
      ·
       have:=hr j (.inr (.inl h1)); omega
      ·
       omega
     ·
      intro j h1 h2; have:=hr j (.inl h1); omega
     ·
      intro j h1 h2; have:=hr j (.inr (.inl h1)); omega
    ·
     refine ⟨F4,F9,F14,fun hd=>?_,fun hd=>?_,fun hd=>?_,fun j hj=>⟨(hr j hj).1,Nat.lt_of_lt_of_le (hr j hj).2 hs⟩,d1,d2,d3⟩
     ·
      rw [vG (Ne.symm i4)]; rw [xP (Ne.symm i4)] at hd; exact (g4 hd).later hb
     ·
      rw [vG (Ne.symm i9)]; rw [xP (Ne.symm i9)] at hd; exact (g9 hd).later hb
     ·
      rw [vG (Ne.symm i14)]; rw [xP (Ne.symm i14)] at hd; exact (g14 hd).later hb
 ·
  by_cases e:15=i
  ·
   subst e; rw [uA]; exact h15 rfl
  ·
   rw [vG e]; rw [xP e] at hd; obtain ⟨a,b,c,e1,e2⟩:=h.y15 hd; exact ⟨a,b,c,e1,e2.later hb⟩
 ·
  by_cases e:16=i
  ·
   subst e; rw [uA]; exact h16 rfl
  ·
   rw [vG e]; rw [xP e] at hd; obtain ⟨a,b,c,d,e1,e2⟩:=h.y16 hd; exact ⟨a,b,c,d,e1,e2.later hb⟩
 ·
  by_cases e:17=i
  ·
   subst e; rw [uA]; exact h17 rfl
  ·
   rw [vG e]; rw [xP e] at hd; obtain ⟨a,b,c,d,e1,e2⟩:=h.y17 hd; exact ⟨a,b,c,d,e1,e2.later hb⟩
theorem Co11.quiet (h:Co11 w D P M G A L S E x W) (i:Nat) {v:Value} (hy:YCo11 D P M G i v) (hi:[4,9,14,15,16,17].contains i=false:=by rfl):Co11 w D P M G A L S (vF E i) (upd x i v) W :=
 h.more i v (Below.refl _ _) hy (fun e=>by subst e; cases hi) (fun e=>by subst e; cases hi) (fun e=>by subst e; cases hi) (fun e=>by subst e; cases hi) (fun e=>by subst e; cases hi) (fun e=>by subst e; cases hi)
theorem Co11.start (w:World) (x:Nat→Value):Co11 w D P M G A L S (fun _=>false) x w.drew :=
 ⟨zZ (Below.refl _ _),(fun {_} h=>nomatch h),⟨(fun _=>False),(fun _=>False),(fun _=>False),(fun h=>nomatch h),(fun h=>nomatch h),(fun h=>nomatch h),(fun _ h=>by rcases h with h | h | h <;> exact h.elim),(fun _ h _=>h),(fun _ h _=>h),(fun _ h _=>h)⟩,(fun h=>nomatch h),(fun h=>nomatch h),(fun h=>nomatch h)⟩
theorem Co11.trio (h:Co11 w D P M G A L S E x W) (h4:E 4=true) (h9:E 9=true) (h14:E 14=true):∃ P' M' G',x 4=.map (some P')∧x 9=.pointer (some ⟨M',0,none⟩)∧x 14=.pointer (some ⟨G',0,none⟩)∧XO w W A L S P' M' G':=by
 obtain ⟨F4,F9,F14,g4,g9,g14,hr,d1,d2,d3⟩:=h.f
 obtain ⟨P',e4,a1,a2⟩:=g4 h4
 obtain ⟨M',p,q,LM,e9,b1,b2⟩:=g9 h9
 obtain ⟨G',pg,T,e14,c1,c2,c3⟩:=g14 h14
 refine ⟨P',M',G',e4,e9,e14,p,q,LM,pg,T,a1,b1,c1,c2,fun i hi e=>?_,fun i hi e=>?_,fun i hi hj=>d3 i (b2 i hi) (c3 i hj),fun i hi=>?_⟩
 ·
  subst e; exact d1 i a2 (b2 i hi)
 ·
  subst e; exact d2 i a2 (c3 i hi)
 ·
  rcases hi with rfl | hi | hi
  ·
   exact (hr i (.inl a2)).1
  ·
   exact (hr i (.inr (.inl (b2 i hi)))).1
  ·
   exact (hr i (.inr (.inr (c3 i hi)))).1
theorem trio_own {P' M' G':Nat} (h:XO w W A L S P' M' G') (hb:Below w.heap.size w W) (hf:Fk11 w):zo w (W.alloc (.cells #[.map (some P'),.pointer (some ⟨M',0,none⟩),.pointer (some ⟨G',0,none⟩)] 108)) W.heap.size P' M' G' A L S:=by
 have ha:=z7 (Below.refl W.heap.size W) (.cells #[.map (some P'),.pointer (some ⟨M',0,none⟩),.pointer (some ⟨G',0,none⟩)] 108)
 obtain ⟨p,q,LM,pg,T,h1,h2,h3,h4,h5,h6,h7,h8⟩:=h
 refine ⟨p,q,LM,pg,T,⟨heap_alloc_new W _,h1.kept (ha.block _ h1.lt),h2.later ha,h3.later ha,h5,h6,h7⟩,h4,fun i hi=>?_,ZN.later ⟨hb,hf.later hb⟩ ha⟩
 rcases hi with rfl | hi
 ·
  exact ZN.new ⟨hb,hf.later hb⟩ (Nat.le_refl _)
 ·
  exact ZN.new ⟨Below.refl _ _,hf⟩ (h8 i hi)
end

section
variable [Fr11] {w0 w:World} {D P M G:Nat} {A:zJ} {L:zB} {S:zw} {k:Nat}
theorem Vh (ho:zo w0 w D P M G A L S):Calls Tryz.prog 164 #[.map (some P)] w fun e w'=>e=.returned (.map (some w.heap.size))∧yG w' w.heap.size A∧Below w.heap.size w w':=by
 obtain ⟨p,q,LM,pg,T,hd,_⟩:=ho
 exact (AnyW.maps_Clone_owns Tryz.clone11 9 _ P _ _ w hd.acc).mono fun _ _ ⟨he,h1,_,hb⟩=>⟨he,h1,hb⟩
theorem UY (ho:zo w0 w D P M G A L S):Calls Tryz.prog 165 #[.pointer (some ⟨M,0,none⟩)] w fun e w'=>Below w.heap.size w w'∧∃ v,e=.returned v∧MkM11 L w' v (fun j=>w.heap.size≤j∧j<w'.heap.size):=by
 obtain ⟨p,q,LM,pg,T,hd,_⟩:=ho
 refine (FM M p q L LM w hd.idx).mono fun e w' ⟨b,p',q',M',he,hz,hb⟩=>⟨hb,_,he,b,p',q',M',rfl,hz.1,fun i hi=>⟨?_,fpM_lt hz.1 hi⟩⟩
 rcases hi with rfl | h | h
 ·
  exact hz.2.1
 ·
  exact hz.2.2.1 i h
 ·
  exact hz.2.2.2 i h
theorem UZ (ho:zo w0 w D P M G A L S) (hk:zM S k):Calls Tryz.prog 166 #[.pointer (some ⟨G,0,none⟩)] w fun e w'=>Below w.heap.size w w'∧∃ v,e=.returned v∧MkG11 S w' v (fun j=>w.heap.size≤j∧j<w'.heap.size):=by
 obtain ⟨p,q,LM,pg,T,hd,rfl,_⟩:=ho
 have hf:=few11 hk
 refine (Jn G pg T w hd.grp (by omega) (Fl hk)).mono fun e w' ⟨b,p',T',he,hz,hS,hb⟩=>⟨hb,_,he,b,p',T',rfl,hz.1,hS,fun i hi=>⟨?_,fpG_lt hz.1 hi⟩⟩
 rcases hi with rfl | h | ⟨x,hx,rfl⟩
 ·
  exact hz.2.1
 ·
  exact hz.2.2.1 i h
 ·
  exact hz.2.2.2 x hx
set_option maxRecDepth 100000 in
theorem Ur (ho:zo w0 w D P M G A L S) (hk:zM S k):Calls Tryz.prog 82 #[.pointer (some ⟨D,0,none⟩)] w fun e w'=>∃ D' P' M' G',e=.returned (.pointer (some ⟨D',0,none⟩))∧zo w w' D' P' M' G' A L S:=by
 have HO:=za ho
 have HFK:=za ho.bel.2
 have HKG:=za hk
 clear ho hk
 go_enter Tryz.func82,Tryz.ntmps82
 go_wp2_with fail
 refine vm (by kernel_rfl) (Co11 w D P M G A L S) ?F ?hF (by kernel_rfl) (by kernel_rfl) (fun x=>Co11.start w x) ?step ?fin
 case hF =>
  intro x
  simp only [List.map_cons,List.map_nil,vH,Act.put,List.setIfInBounds_toArray,List.set_cons_zero,List.set_cons_succ,Nat.zero_add,Nat.reduceAdd]
  exact rfl
 case step =>
  refine ⟨?_,?_,?_,?_,?_,?_,?_,?_,?_,?_,?_,?_,?_,?_,?_,?_,?_,?_,trivial⟩
  all_goals intro E x W hi hd hI K hK
  ·
   clear hd
   go_simp
   exact hK _ _ (hI.quiet 0 rfl)
  ·
   have h0:x 0=_:=hI.y (hd 0 rfl)
   clear hd
   simp only [h0] at hK
   go_simp
   exact hK _ _ (hI.quiet 1 rfl)
  ·
   have h1:x 1=_:=hI.y (hd 1 rfl)
   clear hd
   simp only [h1] at hK
   go_simp
   exact hK _ _ (hI.quiet 2 rfl)
  ·
   have h2:x 2=_:=hI.y (hd 2 rfl)
   have c:=(HO.out.later hI.b).c0
   clear hd
   simp only [h2] at hK
   go_simp
   exact hK _ _ (hI.quiet 3 rfl)
  ·
   have h3:x 3=_:=hI.y (hd 3 rfl)
   have hc:=Vh (HO.out.later hI.b)
   clear hd
   simp only [h3] at hK
   go_simp
   refine hc.mono ?_
   rintro e W' ⟨rfl,ha,hb⟩
   exact hK _ _ (hI.more 4 _ hb trivial (fun _=>⟨_,rfl,ha,Nat.le_refl _,ha.lt⟩) (fun e=>absurd e (by decide)) (fun e=>absurd e (by decide)) (fun e=>absurd e (by decide)) (fun e=>absurd e (by decide)) (fun e=>absurd e (by decide)))
  ·
   clear hd
   go_simp
   exact hK _ _ (hI.quiet 5 rfl)
  ·
   have h5:x 5=_:=hI.y (hd 5 rfl)
   clear hd
   simp only [h5] at hK
   go_simp
   exact hK _ _ (hI.quiet 6 rfl)
  ·
   have h6:x 6=_:=hI.y (hd 6 rfl)
   clear hd
   simp only [h6] at hK
   go_simp
   exact hK _ _ (hI.quiet 7 rfl)
  ·
   have h7:x 7=_:=hI.y (hd 7 rfl)
   have c:=(HO.out.later hI.b).c1
   clear hd
   simp only [h7] at hK
   go_simp
   exact hK _ _ (hI.quiet 8 rfl)
  ·
   have h8:x 8=_:=hI.y (hd 8 rfl)
   have hc:=UY (HO.out.later hI.b)
   clear hd
   simp only [h8] at hK
   go_simp
   refine hc.mono ?_
   rintro e W' ⟨hb,v,rfl,hm⟩
   exact hK _ _ (hI.more 9 _ hb trivial (fun e=>absurd e (by decide)) (fun _=>hm) (fun e=>absurd e (by decide)) (fun e=>absurd e (by decide)) (fun e=>absurd e (by decide)) (fun e=>absurd e (by decide)))
  ·
   clear hd
   go_simp
   exact hK _ _ (hI.quiet 10 rfl)
  ·
   have h10:x 10=_:=hI.y (hd 10 rfl)
   clear hd
   simp only [h10] at hK
   go_simp
   exact hK _ _ (hI.quiet 11 rfl)
  ·
   have h11:x 11=_:=hI.y (hd 11 rfl)
   clear hd
   simp only [h11] at hK
   go_simp
   exact hK _ _ (hI.quiet 12 rfl)
  ·
   have h12:x 12=_:=hI.y (hd 12 rfl)
   have c:=(HO.out.later hI.b).c2
   clear hd
   simp only [h12] at hK
   go_simp
   exact hK _ _ (hI.quiet 13 rfl)
  ·
   have h13:x 13=_:=hI.y (hd 13 rfl)
   have hc:=UZ (HO.out.later hI.b) HKG.out
   clear hd
   simp only [h13] at hK
   go_simp
   refine hc.mono ?_
   rintro e W' ⟨hb,v,rfl,hm⟩
   exact hK _ _ (hI.more 14 _ hb trivial (fun e=>absurd e (by decide)) (fun e=>absurd e (by decide)) (fun _=>hm) (fun e=>absurd e (by decide)) (fun e=>absurd e (by decide)) (fun e=>absurd e (by decide)))
  ·
   obtain ⟨P',M',G',e4,e9,e14,ht⟩:=hI.trio (hd 4 rfl) (hd 9 rfl) (hd 14 rfl)
   clear hd
   simp only [e4,e9,e14] at hK
   go_simp
   exact hK _ _ (hI.more 15 _ (Below.refl _ _) trivial (fun e=>absurd e (by decide)) (fun e=>absurd e (by decide)) (fun e=>absurd e (by decide)) (fun _=>⟨P',M',G',rfl,ht⟩) (fun e=>absurd e (by decide)) (fun e=>absurd e (by decide)))
  ·
   obtain ⟨P',M',G',e15,ht⟩:=hI.y15 (hd 15 rfl)
   clear hd
   simp only [e15] at hK
   go_simp
   exact hK _ _ (hI.more 16 _ (z7 (Below.refl _ _) _) trivial (fun e=>absurd e (by decide)) (fun e=>absurd e (by decide)) (fun e=>absurd e (by decide)) (fun e=>absurd e (by decide)) (fun _=>⟨_,P',M',G',rfl,trio_own ht hI.b HFK.out⟩) (fun e=>absurd e (by decide)))
  ·
   obtain ⟨D',P',M',G',e16,ht⟩:=hI.y16 (hd 16 rfl)
   clear hd
   simp only [e16] at hK
   go_simp
   exact hK _ _ (hI.more 17 _ (Below.refl _ _) trivial (fun e=>absurd e (by decide)) (fun e=>absurd e (by decide)) (fun e=>absurd e (by decide)) (fun e=>absurd e (by decide)) (fun e=>absurd e (by decide)) (fun _=>⟨D',P',M',G',rfl,ht⟩))
 case fin =>
  intro E x W hall hI
  obtain ⟨D',P',M',G',e,ho⟩:=hI.y17 (hall 17 (by decide))
  have HF:=za ho
  clear ho hI hall HO HKG HFK
  rw [e]
  go_wp2
  go_ret
  exact ⟨_,_,_,_,rfl,HF.out⟩
end
end Go.Proofs.YthmomkjingcbiaaGreatDoor
namespace Go.Proofs.YthmomkjingcbiaaGreatDoor
open Go.RowKit Go.Maps

def QK (h:ByteArray):W11:=⟨h,⟨#[]⟩,false,none,[],0⟩
def vB {V:Type} (L:zL V) (n h:List UInt8):Int:=Vf (zf n) (yo h) (zx L n) (decide (12≤L.length))
def fV (L:zL W11) (n h:List UInt8):zL W11:=if vB L n h=0 then zP L n (QK (zI h)) else L
def qo {V:Type} (L:zL V) (n:List UInt8):Int:=jD (zf n) (zx L n)
def YX {V:Type} (L:zL V) (n:List UInt8):zL V:=if qo L n=0 then yu L n else L
def Q7 (x:Int) (L':zL W11) (w:World) (e:Ending) (w':World):Prop:=∃ v,e=.returned (.tuple #[v,.int .i64 x])∧vP L' w' v∧Below w.heap.size w w'
section
variable {L:zL W11} {n h:List UInt8}
theorem rcE11_10 (e:zf n=false):vB L n h=10:=by simp [vB,Vf,e]
theorem rcE11_4 (e:zf n=true) (e2:yo h=false):vB L n h=4:=by simp [vB,Vf,e,e2]
theorem rcE11_9 (e:zf n=true) (e2:yo h=true) (e3:zx L n=true):vB L n h=9:=by simp [vB,Vf,e,e2,e3]
theorem rcE11_7 (e:zf n=true) (e2:yo h=true) (e3:zx L n=false) (e4:12≤L.length):vB L n h=7:=by simp [vB,Vf,e,e2,e3,e4]
theorem rcE11_0 (e:zf n=true) (e2:yo h=true) (e3:zx L n=false) (e4:¬ 12≤L.length):vB L n h=0:=by simp [vB,Vf,e,e2,e3]; omega
theorem rcL11_no (e:vB L n h≠0):fV L n h=L:=if_neg e
theorem rcL11_yes {h:ByteArray} (e:vB L n h.data.toList=0):fV L n h.data.toList=zP L n (QK h):=by unfold fV; rw [if_pos e,xo]
theorem rdE11_10 (e:zf n=false):qo L n=10:=by simp [qo,jD,e]
theorem rdE11_8 (e:zf n=true) (e3:zx L n=false):qo L n=8:=by simp [qo,jD,e,e3]
theorem rdE11_0 (e:zf n=true) (e3:zx L n=true):qo L n=0:=by simp [qo,jD,e,e3]
end
set_option maxRecDepth 100000 in
theorem YY (v:Value) (L:zL W11) (n h:ByteArray) (w:World) (hv:vP L w v) (hr:zA L) (h12:L.length≤12) (hn:n.size≤1000) (hh:h.size≤1000) :
  Calls Tryz.prog 141 #[v,.string n,.string h] w (Q7 (vB L n.data.toList h.data.toList) (fV L n.data.toList h.data.toList) w):=by
 have hnot:∀ (x:Bool) (w:World),(Op.unary .not (.bool x)).run Tryz.prog w=.ok (.bool (!x)) w:=fun _ _=>rfl
 have HN:=za (vf n w hn)
 have HH:=za (YU h w hh)
 obtain ⟨A,c,rfl⟩:=hv.us.shape
 have HF:=za (qN A c L.length L n w rfl h12 hv.us)
 have HP:Hid (∀ W,Below w.heap.size w W→Calls Tryz.prog 150 #[.slice A L.length c,.agg #[.string n,.string h,.string ⟨#[]⟩,.bool false,.slice none 0 0]] W fun e w'=>∃ v,e=.returned v∧vP (zP L n.data.toList (QK h)) w' v∧Below W.heap.size W w'):=fun W hb=>jg A c L.length L n (QK h) W rfl h12 hr (hv.us.later hb)
 have HV:=za hv
 clear hv hr
 have H10:Hid (zf n.data.toList=false→vB L n.data.toList h.data.toList=10):=rcE11_10
 have H4:Hid (zf n.data.toList=true→yo h.data.toList=false→vB L n.data.toList h.data.toList=4):=rcE11_4
 have H9:Hid (zf n.data.toList=true→yo h.data.toList=true→zx L n.data.toList=true→vB L n.data.toList h.data.toList=9):=rcE11_9
 have H7:Hid (zf n.data.toList=true→yo h.data.toList=true→zx L n.data.toList=false→12≤L.length→vB L n.data.toList h.data.toList=7):=rcE11_7
 have H0:Hid (zf n.data.toList=true→yo h.data.toList=true→zx L n.data.toList=false→¬ 12≤L.length→vB L n.data.toList h.data.toList=0):=rcE11_0
 have HNO:Hid (vB L n.data.toList h.data.toList≠0→fV L n.data.toList h.data.toList=L):=rcL11_no
 have HYE:Hid (vB L n.data.toList h.data.toList=0→fV L n.data.toList h.data.toList=zP L n.data.toList (QK h)):=rcL11_yes
 unfold ZK at HF
 generalize vB L n.data.toList h.data.toList=x at *
 generalize fV L n.data.toList h.data.toList=L' at *
 generalize zP L n.data.toList (QK h)=LP at *
 generalize zf n.data.toList=bn at *
 generalize yo h.data.toList=bh at *
 go_enter Tryz.func141,Tryz.ntmps141
 go_wp2_with fail
 with_reducible refine HN.out.mono ?_
 rintro e w1 ⟨rfl,rfl⟩
 cases bn with
 | false =>
  obtain rfl:=H10.out (by first | rfl | trivial)
  obtain rfl:=HNO.out (by decide)
  go_wp2
  go_ret2
  exact ⟨_,rfl,HV.out,Below.refl _ _⟩
 | true =>
 go_wp2_with fail
 with_reducible refine HH.out.mono ?_
 rintro e w1 ⟨rfl,rfl⟩
 cases bh with
 | false =>
  obtain rfl:=H4.out (by first | rfl | trivial) (by first | rfl | trivial)
  obtain rfl:=HNO.out (by decide)
  go_wp2
  go_ret2
  exact ⟨_,rfl,HV.out,Below.refl _ _⟩
 | true =>
 go_wp2_with fail
 with_reducible refine HF.out.mono ?_
 rintro e w2 ⟨r,rfl,hr,hb⟩
 have HB:=za hb
 have HV2:=za (HV.out.later hb)
 clear hb
 rcases hr with ⟨hno,rfl⟩ | ⟨hyes,i,hil,rfl,_⟩
 ·
  have HNOE:=za hno
  clear hno
  by_cases h12b:12≤L.length
  ·
   obtain rfl:=H7.out (by first | rfl | trivial) (by first | rfl | trivial) HNOE.out h12b
   have z:(L.length:Int) ≥ 12:=by omega
   have z':(12:Int)≤(L.length:Int):=by omega
   obtain rfl:=HNO.out (by decide)
   go_wp2
   go_ret2
   exact ⟨_,rfl,HV2.out,HB.out⟩
  ·
   obtain rfl:=H0.out (by first | rfl | trivial) (by first | rfl | trivial) HNOE.out h12b
   obtain rfl:=HYE.out rfl
   have z:¬ (L.length:Int) ≥ 12:=by omega
   have z':¬ (12:Int)≤(L.length:Int):=by omega
   have HPP:=za (HP.out w2 HB.out)
   go_wp2_with fail
   with_reducible refine HPP.out.mono ?_
   rintro e w3 ⟨v3,rfl,hv3,hb⟩
   have HV3:=za hv3
   have HB3:=za (z8 HB.out hb)
   clear hv3 hb
   go_wp2
   go_ret2
   exact ⟨_,rfl,HV3.out,HB3.out⟩
 ·
  obtain rfl:=H9.out (by first | rfl | trivial) (by first | rfl | trivial) hyes
  obtain rfl:=HNO.out (by decide)
  have z:(i:Int) ≥ 0:=by omega
  have z':(0:Int)≤(i:Int):=by omega
  clear hyes
  go_wp2
  go_ret2
  exact ⟨_,rfl,HV2.out,HB.out⟩

set_option maxRecDepth 100000 in
theorem YW (v:Value) (L:zL W11) (n:ByteArray) (w:World) (hv:vP L w v) (h12:L.length≤12) (hn:n.size≤1000) :
  Calls Tryz.prog 142 #[v,.string n] w (Q7 (qo L n.data.toList) (YX L n.data.toList) w):=by
 have hnot:∀ (x:Bool) (w:World),(Op.unary .not (.bool x)).run Tryz.prog w=.ok (.bool (!x)) w:=fun _ _=>rfl
 have HN:=za (vf n w hn)
 obtain ⟨A,c,rfl⟩:=hv.us.shape
 have HF:=za (qN A c L.length L n w rfl h12 hv.us)
 have HP:Hid (∀ W,Below w.heap.size w W→Calls Tryz.prog 151 #[.slice A L.length c,.string n] W fun e w'=>∃ v,e=.returned v∧vP (yu L n.data.toList) w' v∧Below W.heap.size W w'):=fun W hb=>fU A c L.length L n W rfl h12 (hv.us.later hb)
 have HV:=za hv
 clear hv
 have H10:Hid (zf n.data.toList=false→qo L n.data.toList=10):=rdE11_10
 have H8:Hid (zf n.data.toList=true→zx L n.data.toList=false→qo L n.data.toList=8):=rdE11_8
 have H0:Hid (zf n.data.toList=true→zx L n.data.toList=true→qo L n.data.toList=0):=rdE11_0
 have HNO:Hid (qo L n.data.toList≠0→YX L n.data.toList=L):=fun e=>if_neg e
 have HYE:Hid (qo L n.data.toList=0→YX L n.data.toList=yu L n.data.toList):=fun e=>if_pos e
 unfold ZK at HF
 generalize qo L n.data.toList=x at *
 generalize YX L n.data.toList=L' at *
 generalize yu L n.data.toList=LP at *
 generalize zf n.data.toList=bn at *
 go_enter Tryz.func142,Tryz.ntmps142
 go_wp2_with fail
 with_reducible refine HN.out.mono ?_
 rintro e w1 ⟨rfl,rfl⟩
 cases bn with
 | false =>
  obtain rfl:=H10.out (by first | rfl | trivial)
  obtain rfl:=HNO.out (by decide)
  go_wp2
  go_ret2
  exact ⟨_,rfl,HV.out,Below.refl _ _⟩
 | true =>
 go_wp2_with fail
 with_reducible refine HF.out.mono ?_
 rintro e w2 ⟨r,rfl,hr,hb⟩
 have HB:=za hb
 have HV2:=za (HV.out.later hb)
 clear hb
 rcases hr with ⟨hno,rfl⟩ | ⟨hyes,i,hil,rfl,_⟩
 ·
  obtain rfl:=H8.out (by first | rfl | trivial) hno
  obtain rfl:=HNO.out (by decide)
  clear hno
  go_wp2
  go_ret2
  exact ⟨_,rfl,HV2.out,HB.out⟩
 ·
  obtain rfl:=H0.out (by first | rfl | trivial) hyes
  obtain rfl:=HYE.out rfl
  have z:¬ (i:Int)<0:=by omega
  have HPP:=za (HP.out w2 HB.out)
  clear hyes
  go_wp2_with fail
  with_reducible refine HPP.out.mono ?_
  rintro e w3 ⟨v3,rfl,hv3,hb⟩
  have HV3:=za hv3
  have HB3:=za (z8 HB.out hb)
  clear hv3 hb
  go_wp2
  go_ret2
  exact ⟨_,rfl,HV3.out,HB3.out⟩


theorem rc_plain (R:zL W11) (n h:List UInt8):ze (fV R n h)=dcrL (ze R) n h∧vB R n h=dcrE (ze R) n h:=by
 have e:vB R n h=dcrE (ze R) n h:=by unfold vB dcrE; rw [xq,jJ]
 refine ⟨?_,e⟩
 unfold fV dcrL
 rw [← e]
 by_cases h0:vB R n h=0
 ·
  rw [if_pos h0,if_pos h0,xS]
  show zP _ n (W11.u (QK (zI h)))=_
  unfold QK W11.u
  dsimp only
  rw [zy]
 ·
  rw [if_neg h0,if_neg h0]
theorem rd_plain (R:zL W11) (n:List UInt8):ze (YX R n)=JD (ze R) n∧qo R n=ddeE (ze R) n:=by
 have e:qo R n=ddeE (ze R) n:=by unfold qo ddeE; rw [xq]
 refine ⟨?_,e⟩
 unfold YX JD
 rw [← e]
 by_cases h0:qo R n=0
 ·
  rw [if_pos h0,if_pos h0,VB]
 ·
  rw [if_neg h0,if_neg h0]
theorem rc_gs {w:World} {R:zL W11} (hg:qI 0 w R) (n h:List UInt8):qI 0 w (fV R n h):=by
 unfold fV
 split
 ·
  exact hg.put n _ (World.ownsRow_nil _ _ _ _)
 ·
  exact hg
theorem rd_gs {w:World} {R:zL W11} (hg:qI 0 w R) (n:List UInt8):qI 0 w (YX R n):=by
 unfold YX
 split
 ·
  exact hg.del n
 ·
  exact hg

set_option maxRecDepth 100000 in
theorem Yb (v vg:Value) (R:zL W11) (N':List (List UInt8)) (n' h:ByteArray) (w:World) (hR:vQ 0 R w v) (hN:NmR w vg N') (h12:R.length≤12) (hr:zA R) (hz:n'.size≤1000) (hh:h.size≤1000) :
  Calls Tryz.prog 65 #[.agg #[v,vg],.string n',.string h] w (yx (dcrE (ze R) n'.data.toList h.data.toList) (dcrL (ze R) n'.data.toList h.data.toList) N' w):=by
 obtain ⟨A,c,rfl⟩:=hR.rw.us.shape
 obtain ⟨A1,c1,rfl⟩:=hN.shape
 have HC:Hid (∀ W,Below w.heap.size w W→Calls Tryz.prog 141 #[.slice A R.length c,.string n',.string h] W (Q7 (vB R n'.data.toList h.data.toList) (fV R n'.data.toList h.data.toList) W)):=fun W hb=>YY _ R n' h W (hR.rw.later hb) hr h12 hz hh
 have HNN:=za hN
 have HPL:=za (rc_plain R n'.data.toList h.data.toList).1
 have HGS:Hid (∀ W,Below w.heap.size w W→qI 0 W (fV R n'.data.toList h.data.toList)):=fun W hb=>rc_gs (hR.2.later hb) _ _
 rw [← (rc_plain R n'.data.toList h.data.toList).2]
 clear hN hR
 generalize fV R n'.data.toList h.data.toList=R' at *
 generalize dcrL (ze R) n'.data.toList h.data.toList=L' at *
 generalize vB R n'.data.toList h.data.toList=E at *
 generalize R.length=n at *
 generalize N'.length=n1 at *
 have Hd1q:=za (zr w (.slice A n c) (.slice A1 n1 c1))
 have HLO2q:Hid (w.heap.size≤w.heap.size):=Nat.le_refl _
 have HB3q:Hid (Below w.heap.size w (w.alloc (.cells #[.slice A n c,.slice A1 n1 c1] zn))):=z7 (Below.refl _ _) _
 have Hd4q:=za (Hd1q.out.later (z7 (Below.refl _ _) (.cells #[.slice none 0 0,.slice none 0 0] zn)))
 have Hr5q:Hid (yv ((w.alloc (.cells #[.slice A n c,.slice A1 n1 c1] zn)).alloc (.cells #[.slice none 0 0,.slice none 0 0] zn)) (w.heap.size+1) (.slice none 0 0) (.slice none 0 0)):=zi (by simp)
 have HLO6q:Hid (w.heap.size≤w.heap.size+1):=by have:=HB3q.out.size; show _≤_; simp at this; omega
 have HB7q:=za (z8 HB3q.out (z7 (Below.refl _ _) (.cells #[.slice none 0 0,.slice none 0 0] zn)))
 go_enter Tryz.func65,Tryz.ntmps65
 have ⟨kx9q,ky10q,kp11q,kq12q⟩:=Hd4q.out.q11
 have ⟨kx14q,ky15q,kp16q,kq17q⟩:=Hr5q.out.q11
 go_wp2_with fail
 generalize (w.alloc (.cells #[.slice A n c,.slice A1 n1 c1] zn)).alloc (.cells #[.slice none 0 0,.slice none 0 0] zn)=wg18q at *
 with_reducible refine (HC.out wg18q HB7q.out).mono ?_
 rintro e w3 ⟨v3,rfl,hv3,hb⟩
 clear kx9q ky10q kp11q kq12q kx14q ky15q kp16q kq17q
 have Hd19q:=za (Hd4q.out.later hb)
 have Hr20q:=za (Hr5q.out.later hb)
 have HB21q:=za (z8 HB7q.out hb)
 obtain ⟨A3,c3,rfl⟩:=hv3.us.shape
 have HV:=za hv3
 have HG:=za (HGS.out w3 HB21q.out)
 clear hv3 HGS
 obtain ⟨n3,hn3⟩:∃ n,n=R'.length:=⟨_,rfl⟩
 rw [← hn3] at HV ⊢
 clear hn3
 clear hb
 have ⟨kx23q,ky24q,kp25q,kq26q⟩:=Hd19q.out.q11
 have ⟨kx28q,ky29q,kp30q,kq31q⟩:=Hr20q.out.q11
 have Hd32q:=za (Hd19q.out.set0 (.slice A3 n3 c3))
 have Hr33q:=za (Hr20q.out.other (c:=w.heap.size) (i:=0) (by omega) (.slice A3 n3 c3))
 have HB34q:=za (HB21q.out.setCell (p:=⟨w.heap.size,0,none⟩) HLO2q.out (.slice A3 n3 c3))
 have ⟨kx36q,ky37q,kp38q,kq39q⟩:=Hd32q.out.q11
 have ⟨kx41q,ky42q,kp43q,kq44q⟩:=Hr33q.out.q11
 have HS:=yt HB34q.out Hr33q.out HLO6q.out (.slice A3 n3 c3) (.slice A1 n1 c1)
 have z0:=HS.1.c0
 have z1:=HS.1.c1
 have HKD2:Hid (zR w3 _):=(Hd19q.out.keep 0 _).trans HS.2.2
 have HPOST:=za (show yx E L' N' w (.returned (.tuple #[.agg #[.slice A3 n3 c3,.slice A1 n1 c1],.int .i64 E])) _ from ⟨R',_,_,rfl,⟨(HV.out.keepD11 HKD2.out),HG.out.keepD11 HKD2.out⟩,HPL.out,HNN.out.later HS.2.1,HS.2.1⟩)
 clear HS
 go_wp2
 refine bodyPost_ret (v:=.tuple #[.agg #[.slice A3 n3 c3,.slice A1 n1 c1],.int .i64 E]) ?_ rfl HPOST.out
 simp [results,Tryz.results65,go_sem,z0,z1]

set_option maxRecDepth 100000 in
theorem Ya (v vg:Value) (R:zL W11) (N':List (List UInt8)) (n':ByteArray) (w:World) (hR:vQ 0 R w v) (hN:NmR w vg N') (h12:R.length≤12) (hz:n'.size≤1000) :
  Calls Tryz.prog 66 #[.agg #[v,vg],.string n'] w (yx (ddeE (ze R) n'.data.toList) (JD (ze R) n'.data.toList) N' w):=by
 obtain ⟨A,c,rfl⟩:=hR.rw.us.shape
 obtain ⟨A1,c1,rfl⟩:=hN.shape
 have HC:Hid (∀ W,Below w.heap.size w W→Calls Tryz.prog 142 #[.slice A R.length c,.string n'] W (Q7 (qo R n'.data.toList) (YX R n'.data.toList) W)):=fun W hb=>YW _ R n' W (hR.rw.later hb) h12 hz
 have HNN:=za hN
 have HPL:=za (rd_plain R n'.data.toList).1
 have HGS:Hid (∀ W,Below w.heap.size w W→qI 0 W (YX R n'.data.toList)):=fun W hb=>rd_gs (hR.2.later hb) _
 rw [← (rd_plain R n'.data.toList).2]
 clear hN hR
 generalize YX R n'.data.toList=R' at *
 generalize JD (ze R) n'.data.toList=L' at *
 generalize qo R n'.data.toList=E at *
 generalize R.length=n at *
 generalize N'.length=n1 at *
 have Hd1r:=za (zr w (.slice A n c) (.slice A1 n1 c1))
 have HLO2r:Hid (w.heap.size≤w.heap.size):=Nat.le_refl _
 have HB3r:Hid (Below w.heap.size w (w.alloc (.cells #[.slice A n c,.slice A1 n1 c1] zn))):=z7 (Below.refl _ _) _
 have Hd4r:=za (Hd1r.out.later (z7 (Below.refl _ _) (.cells #[.slice none 0 0,.slice none 0 0] zn)))
 have Hr5r:Hid (yv ((w.alloc (.cells #[.slice A n c,.slice A1 n1 c1] zn)).alloc (.cells #[.slice none 0 0,.slice none 0 0] zn)) (w.heap.size+1) (.slice none 0 0) (.slice none 0 0)):=zi (by simp)
 have HLO6r:Hid (w.heap.size≤w.heap.size+1):=by have:=HB3r.out.size; show _≤_; simp at this; omega
 have HB7r:=za (z8 HB3r.out (z7 (Below.refl _ _) (.cells #[.slice none 0 0,.slice none 0 0] zn)))
 go_enter Tryz.func66,Tryz.ntmps66
 have ⟨kx9r,ky10r,kp11r,kq12r⟩:=Hd4r.out.q11
 have ⟨kx14r,ky15r,kp16r,kq17r⟩:=Hr5r.out.q11
 go_wp2_with fail
 generalize (w.alloc (.cells #[.slice A n c,.slice A1 n1 c1] zn)).alloc (.cells #[.slice none 0 0,.slice none 0 0] zn)=wg18r at *
 with_reducible refine (HC.out wg18r HB7r.out).mono ?_
 rintro e w3 ⟨v3,rfl,hv3,hb⟩
 clear kx9r ky10r kp11r kq12r kx14r ky15r kp16r kq17r
 have Hd19r:=za (Hd4r.out.later hb)
 have Hr20r:=za (Hr5r.out.later hb)
 have HB21r:=za (z8 HB7r.out hb)
 obtain ⟨A3,c3,rfl⟩:=hv3.us.shape
 have HV:=za hv3
 have HG:=za (HGS.out w3 HB21r.out)
 clear hv3 HGS
 obtain ⟨n3,hn3⟩:∃ n,n=R'.length:=⟨_,rfl⟩
 rw [← hn3] at HV ⊢
 clear hn3
 clear hb
 have ⟨kx23r,ky24r,kp25r,kq26r⟩:=Hd19r.out.q11
 have ⟨kx28r,ky29r,kp30r,kq31r⟩:=Hr20r.out.q11
 have Hd32r:=za (Hd19r.out.set0 (.slice A3 n3 c3))
 have Hr33r:=za (Hr20r.out.other (c:=w.heap.size) (i:=0) (by omega) (.slice A3 n3 c3))
 have HB34r:=za (HB21r.out.setCell (p:=⟨w.heap.size,0,none⟩) HLO2r.out (.slice A3 n3 c3))
 have ⟨kx36r,ky37r,kp38r,kq39r⟩:=Hd32r.out.q11
 have ⟨kx41r,ky42r,kp43r,kq44r⟩:=Hr33r.out.q11
 have HS:=yt HB34r.out Hr33r.out HLO6r.out (.slice A3 n3 c3) (.slice A1 n1 c1)
 have z0:=HS.1.c0
 have z1:=HS.1.c1
 have HKD2:Hid (zR w3 _):=(Hd19r.out.keep 0 _).trans HS.2.2
 have HPOST:=za (show yx E L' N' w (.returned (.tuple #[.agg #[.slice A3 n3 c3,.slice A1 n1 c1],.int .i64 E])) _ from ⟨R',_,_,rfl,⟨(HV.out.keepD11 HKD2.out),HG.out.keepD11 HKD2.out⟩,HPL.out,HNN.out.later HS.2.1,HS.2.1⟩)
 clear HS
 go_wp2
 refine bodyPost_ret (v:=.tuple #[.agg #[.slice A3 n3 c3,.slice A1 n1 c1],.int .i64 E]) ?_ rfl HPOST.out
 simp [results,Tryz.results66,go_sem,z0,z1]

set_option maxRecDepth 100000 in
theorem Y8 (v vg:Value) (R:zL W11) (N:List (List UInt8)) (s h:ByteArray) (w:World) (hR:vQ 0 R w v) (hN:NmR w vg N) (h12:R.length≤12) (hr:zA R) (hn:s.size≤1000) (hh:h.size≤1000) :
  Calls Tryz.prog 67 #[.agg #[v,vg],.string s,.string h] w (yx (dshE (ze R) s.data.toList h.data.toList) (dshL (ze R) s.data.toList h.data.toList) N w):=by
 have hnot:∀ (x:Bool) (w:World),(Op.unary .not (.bool x)).run Tryz.prog w=.ok (.bool (!x)) w:=fun _ _=>rfl
 have hzu:=uz
 obtain ⟨A,c,rfl⟩:=hR.rw.us.shape
 obtain ⟨A1,c1,rfl⟩:=hN.shape
 have HU0:Hid (∀ W,Below w.heap.size w W→Calls Tryz.prog 143 #[.agg #[.slice A R.length c,.slice A1 N.length c1],.string s] W (qG R s W)):=fun W hb=>xR _ _ R N s W (hR.later hb) (hN.later hb) h12 hr hn
 have HH0:=za (fun W=>YU h W hh)
 have HPT0:Hid (∀ (x:W11) W,Below w.heap.size w W→Calls Tryz.prog 145 #[.agg #[.slice A R.length c,.slice A1 N.length c1],zV s x] W fun e w'=>∃ v',e=.returned (.agg #[v',.slice A1 N.length c1])∧vP (zP R s.data.toList x) w' v'∧Below W.heap.size W w'):=fun x W hb=>vp _ _ R N s x W (hR.rw.later hb) (hN.later hb) h12 hr
 have HRC:=za hR
 have HNN:=za hN
 have HRI:=za hr
 clear hR hN
 obtain ⟨n,hlen⟩:∃ n,n=R.length:=⟨_,rfl⟩
 obtain ⟨n1,hlen1⟩:∃ n,n=N.length:=⟨_,rfl⟩
 have HLR:=za hlen
 have HLN:=za hlen1
 unfold qG at HU0
 rw [← hlen] at HU0 HPT0 HRC ⊢
 rw [← hlen1] at HU0 HPT0 HNN ⊢
 clear hlen hlen1
 have HE:Hid (dshE (ze R) s.data.toList h.data.toList=shF11 (zf s.data.toList) (yo h.data.toList) (zx R s.data.toList) (disU (ze R) s.data.toList)):=by
  show _=_
  unfold dshE; rw [xq]
 have HL2:Hid (dshL (ze R) s.data.toList h.data.toList=if shF11 (zf s.data.toList) (yo h.data.toList) (zx R s.data.toList) (disU (ze R) s.data.toList)=0 then fL (ze R) s.data.toList (fun u=>{ u with hs:=h.data.toList }) else ze R):=by
  show _=_
  unfold dshL; rw [HE.out]
 generalize dshE (ze R) s.data.toList h.data.toList=E at *
 generalize dshL (ze R) s.data.toList h.data.toList=L' at *
 cases hname:zf s.data.toList with
 | false =>
  rw [hname] at HU0
  have e1:E=10:=by
   have:=HE.out
   rw [hname] at this
   exact this
  have e2:L'=ze R:=by
   have:=HL2.out
   rw [hname] at this
   exact this
  rw [e1]
  clear e1
  clear HE HL2 HPT0
  have Hd1a:=za (zr w (.slice A n c) (.slice A1 n1 c1))
  have HLO2a:Hid (w.heap.size≤w.heap.size):=Nat.le_refl _
  have HB3a:Hid (Below w.heap.size w (w.alloc (.cells #[.slice A n c,.slice A1 n1 c1] zn))):=z7 (Below.refl _ _) _
  have Hd4a:=za (Hd1a.out.later (z7 (Below.refl _ _) (.cells #[.slice none 0 0,.slice none 0 0] zn)))
  have Hr5a:Hid (yv ((w.alloc (.cells #[.slice A n c,.slice A1 n1 c1] zn)).alloc (.cells #[.slice none 0 0,.slice none 0 0] zn)) (w.heap.size+1) (.slice none 0 0) (.slice none 0 0)):=zi (by simp)
  have HLO6a:Hid (w.heap.size≤w.heap.size+1):=by have:=HB3a.out.size; show _≤_; simp at this; omega
  have HB7a:=za (z8 HB3a.out (z7 (Below.refl _ _) (.cells #[.slice none 0 0,.slice none 0 0] zn)))
  go_enter Tryz.func67,Tryz.ntmps67
  have ⟨kx9a,ky10a,kp11a,kq12a⟩:=Hd4a.out.q11
  have ⟨kx14a,ky15a,kp16a,kq17a⟩:=Hr5a.out.q11
  go_wp2_with fail
  generalize (w.alloc (.cells #[.slice A n c,.slice A1 n1 c1] zn)).alloc (.cells #[.slice none 0 0,.slice none 0 0] zn)=wg18a at *
  with_reducible refine (HU0.out wg18a HB7a.out).mono ?_
  rintro e w3 ⟨t,x,he,hyes,hno,hb⟩
  clear kx9a ky10a kp11a kq12a kx14a ky15a kp16a kq17a
  have Hd19a:=za (Hd4a.out.later hb)
  have Hr20a:=za (Hr5a.out.later hb)
  have HB21a:=za (z8 HB7a.out hb)
  clear hb
  have he':e=.returned (.tuple #[.agg #[.string ⟨#[]⟩,.string ⟨#[]⟩,.string ⟨#[]⟩,.bool false,.slice none 0 0],.int .i64 10]):=by
   obtain ⟨h1,h2⟩:=hno (by show (10:Int)≠0; decide)
   rw [he,h1,h2]; rfl
  subst he'
  clear he hyes hno
  have HLT22a:=za (Hd19a.out.lt)
  have HLT23a:=za (Hr20a.out.lt)
  have Hd24a:=za (Hd19a.out.later (z7 (Below.refl _ _) (.cells #[.string ⟨#[]⟩,.string ⟨#[]⟩,.string ⟨#[]⟩,.bool false,.slice none 0 0] 47)))
  have Hr25a:=za (Hr20a.out.later (z7 (Below.refl _ _) (.cells #[.string ⟨#[]⟩,.string ⟨#[]⟩,.string ⟨#[]⟩,.bool false,.slice none 0 0] 47)))
  have Hu26a:Hid (yf (w3.alloc (.cells #[.string ⟨#[]⟩,.string ⟨#[]⟩,.string ⟨#[]⟩,.bool false,.slice none 0 0] 47)) (w3.heap.size) (.string ⟨#[]⟩) (.string ⟨#[]⟩) (.string ⟨#[]⟩) (.bool false) (.slice none 0 0)):=heap_alloc_new w3 _
  have HLO27a:Hid (w.heap.size≤w3.heap.size):=by have:=HB21a.out.size; show _≤_; exact this
  have HB28a:=za (z8 HB21a.out (z7 (Below.refl _ _) (.cells #[.string ⟨#[]⟩,.string ⟨#[]⟩,.string ⟨#[]⟩,.bool false,.slice none 0 0] 47)))
  have ⟨kx30a,ky31a,kp32a,kq33a⟩:=Hd24a.out.q11
  have ⟨kx35a,ky36a,kp37a,kq38a⟩:=Hr25a.out.q11
  have hu39a:=Hu26a.out
  have kf40a:=hu39a.free
  have kc41a:_=some (.string ⟨#[]⟩:Value):=hu39a.at_ 0
  have kc42a:_=some (.string ⟨#[]⟩:Value):=hu39a.at_ 1
  have kc43a:_=some (.string ⟨#[]⟩:Value):=hu39a.at_ 2
  have kc44a:_=some (.bool false:Value):=hu39a.at_ 3
  have kc45a:_=some (.slice none 0 0:Value):=hu39a.at_ 4
  clear hu39a
  have HS:=yt HB28a.out Hr25a.out HLO6a.out (.slice A n c) (.slice A1 n1 c1)
  have z0:=HS.1.c0
  have z1:=HS.1.c1
  have HPOST:=za (show yx 10 L' N w (.returned (.tuple #[.agg #[.slice A n c,.slice A1 n1 c1],.int .i64 10])) _ from ⟨R,_,_,rfl,HRC.out.later HS.2.1,e2.symm,HNN.out.later HS.2.1,HS.2.1⟩)
  clear HS
  go_wp2
  refine bodyPost_ret (v:=.tuple #[.agg #[.slice A n c,.slice A1 n1 c1],.int .i64 10]) ?_ rfl HPOST.out
  simp [results,Tryz.results67,go_sem,z0,z1]
 | true =>
  rw [hname] at HU0
  cases hhash:yo h.data.toList with
  | false =>
   rw [hhash] at HH0
   cases hh:zx R s.data.toList with
   | false =>
    rw [hh] at HU0
    have e1:E=4:=by
     have:=HE.out
     rw [hname] at this
     rw [hhash] at this
     exact this
    have e2:L'=ze R:=by
     have:=HL2.out
     rw [hname] at this
     rw [hhash] at this
     exact this
    rw [e1]
    clear e1
    clear HE HL2 HPT0
    have Hd1bf:=za (zr w (.slice A n c) (.slice A1 n1 c1))
    have HLO2bf:Hid (w.heap.size≤w.heap.size):=Nat.le_refl _
    have HB3bf:Hid (Below w.heap.size w (w.alloc (.cells #[.slice A n c,.slice A1 n1 c1] zn))):=z7 (Below.refl _ _) _
    have Hd4bf:=za (Hd1bf.out.later (z7 (Below.refl _ _) (.cells #[.slice none 0 0,.slice none 0 0] zn)))
    have Hr5bf:Hid (yv ((w.alloc (.cells #[.slice A n c,.slice A1 n1 c1] zn)).alloc (.cells #[.slice none 0 0,.slice none 0 0] zn)) (w.heap.size+1) (.slice none 0 0) (.slice none 0 0)):=zi (by simp)
    have HLO6bf:Hid (w.heap.size≤w.heap.size+1):=by have:=HB3bf.out.size; show _≤_; simp at this; omega
    have HB7bf:=za (z8 HB3bf.out (z7 (Below.refl _ _) (.cells #[.slice none 0 0,.slice none 0 0] zn)))
    go_enter Tryz.func67,Tryz.ntmps67
    have ⟨kx9bf,ky10bf,kp11bf,kq12bf⟩:=Hd4bf.out.q11
    have ⟨kx14bf,ky15bf,kp16bf,kq17bf⟩:=Hr5bf.out.q11
    go_wp2_with fail
    generalize (w.alloc (.cells #[.slice A n c,.slice A1 n1 c1] zn)).alloc (.cells #[.slice none 0 0,.slice none 0 0] zn)=wg18bf at *
    with_reducible refine (HU0.out wg18bf HB7bf.out).mono ?_
    rintro e w3 ⟨t,x,he,hyes,hno,hb⟩
    clear kx9bf ky10bf kp11bf kq12bf kx14bf ky15bf kp16bf kq17bf
    have Hd19bf:=za (Hd4bf.out.later hb)
    have Hr20bf:=za (Hr5bf.out.later hb)
    have HB21bf:=za (z8 HB7bf.out hb)
    clear hb
    have he':e=.returned (.tuple #[.agg #[.string ⟨#[]⟩,.string ⟨#[]⟩,.string ⟨#[]⟩,.bool false,.slice none 0 0],.int .i64 8]):=by
     obtain ⟨h1,h2⟩:=hno (by show (8:Int)≠0; decide)
     rw [he,h1,h2]; rfl
    subst he'
    clear he hyes hno
    have HLT22bf:=za (Hd19bf.out.lt)
    have HLT23bf:=za (Hr20bf.out.lt)
    have Hd24bf:=za (Hd19bf.out.later (z7 (Below.refl _ _) (.cells #[.string ⟨#[]⟩,.string ⟨#[]⟩,.string ⟨#[]⟩,.bool false,.slice none 0 0] 47)))
    have Hr25bf:=za (Hr20bf.out.later (z7 (Below.refl _ _) (.cells #[.string ⟨#[]⟩,.string ⟨#[]⟩,.string ⟨#[]⟩,.bool false,.slice none 0 0] 47)))
    have Hu26bf:Hid (yf (w3.alloc (.cells #[.string ⟨#[]⟩,.string ⟨#[]⟩,.string ⟨#[]⟩,.bool false,.slice none 0 0] 47)) (w3.heap.size) (.string ⟨#[]⟩) (.string ⟨#[]⟩) (.string ⟨#[]⟩) (.bool false) (.slice none 0 0)):=heap_alloc_new w3 _
    have HLO27bf:Hid (w.heap.size≤w3.heap.size):=by have:=HB21bf.out.size; show _≤_; exact this
    have HB28bf:=za (z8 HB21bf.out (z7 (Below.refl _ _) (.cells #[.string ⟨#[]⟩,.string ⟨#[]⟩,.string ⟨#[]⟩,.bool false,.slice none 0 0] 47)))
    have ⟨kx30bf,ky31bf,kp32bf,kq33bf⟩:=Hd24bf.out.q11
    have ⟨kx35bf,ky36bf,kp37bf,kq38bf⟩:=Hr25bf.out.q11
    have hu39bf:=Hu26bf.out
    have kf40bf:=hu39bf.free
    have kc41bf:_=some (.string ⟨#[]⟩:Value):=hu39bf.at_ 0
    have kc42bf:_=some (.string ⟨#[]⟩:Value):=hu39bf.at_ 1
    have kc43bf:_=some (.string ⟨#[]⟩:Value):=hu39bf.at_ 2
    have kc44bf:_=some (.bool false:Value):=hu39bf.at_ 3
    have kc45bf:_=some (.slice none 0 0:Value):=hu39bf.at_ 4
    clear hu39bf
    go_wp2_with fail
    generalize w3.alloc (.cells #[.string ⟨#[]⟩,.string ⟨#[]⟩,.string ⟨#[]⟩,.bool false,.slice none 0 0] 47)=wg46bf at *
    with_reducible refine (HH0.out _).mono ?_
    rintro e wn ⟨rfl,hw⟩
    replace hw:=hw.symm
    subst hw
    clear kx30bf ky31bf kp32bf kq33bf kx35bf ky36bf kp37bf kq38bf kf40bf kc41bf kc42bf kc43bf kc44bf kc45bf
    have ⟨kx48bf,ky49bf,kp50bf,kq51bf⟩:=Hd24bf.out.q11
    have ⟨kx53bf,ky54bf,kp55bf,kq56bf⟩:=Hr25bf.out.q11
    have hu57bf:=Hu26bf.out
    have kf58bf:=hu57bf.free
    have kc59bf:_=some (.string ⟨#[]⟩:Value):=hu57bf.at_ 0
    have kc60bf:_=some (.string ⟨#[]⟩:Value):=hu57bf.at_ 1
    have kc61bf:_=some (.string ⟨#[]⟩:Value):=hu57bf.at_ 2
    have kc62bf:_=some (.bool false:Value):=hu57bf.at_ 3
    have kc63bf:_=some (.slice none 0 0:Value):=hu57bf.at_ 4
    clear hu57bf
    have HS:=yt HB28bf.out Hr25bf.out HLO6bf.out (.slice A n c) (.slice A1 n1 c1)
    have z0:=HS.1.c0
    have z1:=HS.1.c1
    have HPOST:=za (show yx 4 L' N w (.returned (.tuple #[.agg #[.slice A n c,.slice A1 n1 c1],.int .i64 4])) _ from ⟨R,_,_,rfl,HRC.out.later HS.2.1,e2.symm,HNN.out.later HS.2.1,HS.2.1⟩)
    clear HS
    go_wp2
    refine bodyPost_ret (v:=.tuple #[.agg #[.slice A n c,.slice A1 n1 c1],.int .i64 4]) ?_ rfl HPOST.out
    simp [results,Tryz.results67,go_sem,z0,z1]
   | true =>
    rw [hh] at HU0
    have e1:E=4:=by
     have:=HE.out
     rw [hname] at this
     rw [hhash] at this
     exact this
    have e2:L'=ze R:=by
     have:=HL2.out
     rw [hname] at this
     rw [hhash] at this
     exact this
    rw [e1]
    clear e1
    clear HE HL2 HPT0
    have Hd1bt:=za (zr w (.slice A n c) (.slice A1 n1 c1))
    have HLO2bt:Hid (w.heap.size≤w.heap.size):=Nat.le_refl _
    have HB3bt:Hid (Below w.heap.size w (w.alloc (.cells #[.slice A n c,.slice A1 n1 c1] zn))):=z7 (Below.refl _ _) _
    have Hd4bt:=za (Hd1bt.out.later (z7 (Below.refl _ _) (.cells #[.slice none 0 0,.slice none 0 0] zn)))
    have Hr5bt:Hid (yv ((w.alloc (.cells #[.slice A n c,.slice A1 n1 c1] zn)).alloc (.cells #[.slice none 0 0,.slice none 0 0] zn)) (w.heap.size+1) (.slice none 0 0) (.slice none 0 0)):=zi (by simp)
    have HLO6bt:Hid (w.heap.size≤w.heap.size+1):=by have:=HB3bt.out.size; show _≤_; simp at this; omega
    have HB7bt:=za (z8 HB3bt.out (z7 (Below.refl _ _) (.cells #[.slice none 0 0,.slice none 0 0] zn)))
    go_enter Tryz.func67,Tryz.ntmps67
    have ⟨kx9bt,ky10bt,kp11bt,kq12bt⟩:=Hd4bt.out.q11
    have ⟨kx14bt,ky15bt,kp16bt,kq17bt⟩:=Hr5bt.out.q11
    go_wp2_with fail
    generalize (w.alloc (.cells #[.slice A n c,.slice A1 n1 c1] zn)).alloc (.cells #[.slice none 0 0,.slice none 0 0] zn)=wg18bt at *
    with_reducible refine (HU0.out wg18bt HB7bt.out).mono ?_
    rintro e w3 ⟨t,x,he,hyes,hno,hb⟩
    clear kx9bt ky10bt kp11bt kq12bt kx14bt ky15bt kp16bt kq17bt
    have Hd19bt:=za (Hd4bt.out.later hb)
    have Hr20bt:=za (Hr5bt.out.later hb)
    have HB21bt:=za (z8 HB7bt.out hb)
    clear hb
    obtain ⟨ht,hx⟩:=hyes rfl
    obtain ⟨xh,xm,xd,xa,xg,xc⟩:=x
    obtain ⟨xl,hxl⟩:∃ l,l=xg.length:=⟨_,rfl⟩
    have he':e=.returned (.tuple #[.agg #[.string s,.string xh,.string xm,.bool xd,.slice xa xl xc],.int .i64 0]):=by
     rw [he,ht,hxl]; rfl
    subst he'
    have HXx:=za hx
    have HLx:=za hxl
    clear he hyes hno ht hx hxl
    have HLT22bt:=za (Hd19bt.out.lt)
    have HLT23bt:=za (Hr20bt.out.lt)
    have Hd24bt:=za (Hd19bt.out.later (z7 (Below.refl _ _) (.cells #[.string s,.string xh,.string xm,.bool xd,.slice xa xl xc] 47)))
    have Hr25bt:=za (Hr20bt.out.later (z7 (Below.refl _ _) (.cells #[.string s,.string xh,.string xm,.bool xd,.slice xa xl xc] 47)))
    have Hu26bt:Hid (yf (w3.alloc (.cells #[.string s,.string xh,.string xm,.bool xd,.slice xa xl xc] 47)) (w3.heap.size) (.string s) (.string xh) (.string xm) (.bool xd) (.slice xa xl xc)):=heap_alloc_new w3 _
    have HLO27bt:Hid (w.heap.size≤w3.heap.size):=by have:=HB21bt.out.size; show _≤_; exact this
    have HB28bt:=za (z8 HB21bt.out (z7 (Below.refl _ _) (.cells #[.string s,.string xh,.string xm,.bool xd,.slice xa xl xc] 47)))
    have ⟨kx30bt,ky31bt,kp32bt,kq33bt⟩:=Hd24bt.out.q11
    have ⟨kx35bt,ky36bt,kp37bt,kq38bt⟩:=Hr25bt.out.q11
    have hu39bt:=Hu26bt.out
    have kf40bt:=hu39bt.free
    have kc41bt:_=some (.string s:Value):=hu39bt.at_ 0
    have kc42bt:_=some (.string xh:Value):=hu39bt.at_ 1
    have kc43bt:_=some (.string xm:Value):=hu39bt.at_ 2
    have kc44bt:_=some (.bool xd:Value):=hu39bt.at_ 3
    have kc45bt:_=some (.slice xa xl xc:Value):=hu39bt.at_ 4
    clear hu39bt
    go_wp2_with fail
    generalize w3.alloc (.cells #[.string s,.string xh,.string xm,.bool xd,.slice xa xl xc] 47)=wg46bt at *
    with_reducible refine (HH0.out _).mono ?_
    rintro e wn ⟨rfl,hw⟩
    replace hw:=hw.symm
    subst hw
    clear kx30bt ky31bt kp32bt kq33bt kx35bt ky36bt kp37bt kq38bt kf40bt kc41bt kc42bt kc43bt kc44bt kc45bt
    have ⟨kx48bt,ky49bt,kp50bt,kq51bt⟩:=Hd24bt.out.q11
    have ⟨kx53bt,ky54bt,kp55bt,kq56bt⟩:=Hr25bt.out.q11
    have hu57bt:=Hu26bt.out
    have kf58bt:=hu57bt.free
    have kc59bt:_=some (.string s:Value):=hu57bt.at_ 0
    have kc60bt:_=some (.string xh:Value):=hu57bt.at_ 1
    have kc61bt:_=some (.string xm:Value):=hu57bt.at_ 2
    have kc62bt:_=some (.bool xd:Value):=hu57bt.at_ 3
    have kc63bt:_=some (.slice xa xl xc:Value):=hu57bt.at_ 4
    clear hu57bt
    have HS:=yt HB28bt.out Hr25bt.out HLO6bt.out (.slice A n c) (.slice A1 n1 c1)
    have z0:=HS.1.c0
    have z1:=HS.1.c1
    have HPOST:=za (show yx 4 L' N w (.returned (.tuple #[.agg #[.slice A n c,.slice A1 n1 c1],.int .i64 4])) _ from ⟨R,_,_,rfl,HRC.out.later HS.2.1,e2.symm,HNN.out.later HS.2.1,HS.2.1⟩)
    clear HS
    go_wp2
    refine bodyPost_ret (v:=.tuple #[.agg #[.slice A n c,.slice A1 n1 c1],.int .i64 4]) ?_ rfl HPOST.out
    simp [results,Tryz.results67,go_sem,z0,z1]
  | true =>
   rw [hhash] at HH0
   cases hh:zx R s.data.toList with
   | false =>
    rw [hh] at HU0
    have e1:E=8:=by
     have:=HE.out
     rw [hname] at this
     rw [hhash] at this
     rw [hh] at this
     exact this
    have e2:L'=ze R:=by
     have:=HL2.out
     rw [hname] at this
     rw [hhash] at this
     rw [hh] at this
     exact this
    rw [e1]
    clear e1
    clear HE HL2 HPT0
    have Hd1c:=za (zr w (.slice A n c) (.slice A1 n1 c1))
    have HLO2c:Hid (w.heap.size≤w.heap.size):=Nat.le_refl _
    have HB3c:Hid (Below w.heap.size w (w.alloc (.cells #[.slice A n c,.slice A1 n1 c1] zn))):=z7 (Below.refl _ _) _
    have Hd4c:=za (Hd1c.out.later (z7 (Below.refl _ _) (.cells #[.slice none 0 0,.slice none 0 0] zn)))
    have Hr5c:Hid (yv ((w.alloc (.cells #[.slice A n c,.slice A1 n1 c1] zn)).alloc (.cells #[.slice none 0 0,.slice none 0 0] zn)) (w.heap.size+1) (.slice none 0 0) (.slice none 0 0)):=zi (by simp)
    have HLO6c:Hid (w.heap.size≤w.heap.size+1):=by have:=HB3c.out.size; show _≤_; simp at this; omega
    have HB7c:=za (z8 HB3c.out (z7 (Below.refl _ _) (.cells #[.slice none 0 0,.slice none 0 0] zn)))
    go_enter Tryz.func67,Tryz.ntmps67
    have ⟨kx9c,ky10c,kp11c,kq12c⟩:=Hd4c.out.q11
    have ⟨kx14c,ky15c,kp16c,kq17c⟩:=Hr5c.out.q11
    go_wp2_with fail
    generalize (w.alloc (.cells #[.slice A n c,.slice A1 n1 c1] zn)).alloc (.cells #[.slice none 0 0,.slice none 0 0] zn)=wg18c at *
    with_reducible refine (HU0.out wg18c HB7c.out).mono ?_
    rintro e w3 ⟨t,x,he,hyes,hno,hb⟩
    clear kx9c ky10c kp11c kq12c kx14c ky15c kp16c kq17c
    have Hd19c:=za (Hd4c.out.later hb)
    have Hr20c:=za (Hr5c.out.later hb)
    have HB21c:=za (z8 HB7c.out hb)
    clear hb
    have he':e=.returned (.tuple #[.agg #[.string ⟨#[]⟩,.string ⟨#[]⟩,.string ⟨#[]⟩,.bool false,.slice none 0 0],.int .i64 8]):=by
     obtain ⟨h1,h2⟩:=hno (by show (8:Int)≠0; decide)
     rw [he,h1,h2]; rfl
    subst he'
    clear he hyes hno
    have HLT22c:=za (Hd19c.out.lt)
    have HLT23c:=za (Hr20c.out.lt)
    have Hd24c:=za (Hd19c.out.later (z7 (Below.refl _ _) (.cells #[.string ⟨#[]⟩,.string ⟨#[]⟩,.string ⟨#[]⟩,.bool false,.slice none 0 0] 47)))
    have Hr25c:=za (Hr20c.out.later (z7 (Below.refl _ _) (.cells #[.string ⟨#[]⟩,.string ⟨#[]⟩,.string ⟨#[]⟩,.bool false,.slice none 0 0] 47)))
    have Hu26c:Hid (yf (w3.alloc (.cells #[.string ⟨#[]⟩,.string ⟨#[]⟩,.string ⟨#[]⟩,.bool false,.slice none 0 0] 47)) (w3.heap.size) (.string ⟨#[]⟩) (.string ⟨#[]⟩) (.string ⟨#[]⟩) (.bool false) (.slice none 0 0)):=heap_alloc_new w3 _
    have HLO27c:Hid (w.heap.size≤w3.heap.size):=by have:=HB21c.out.size; show _≤_; exact this
    have HB28c:=za (z8 HB21c.out (z7 (Below.refl _ _) (.cells #[.string ⟨#[]⟩,.string ⟨#[]⟩,.string ⟨#[]⟩,.bool false,.slice none 0 0] 47)))
    have ⟨kx30c,ky31c,kp32c,kq33c⟩:=Hd24c.out.q11
    have ⟨kx35c,ky36c,kp37c,kq38c⟩:=Hr25c.out.q11
    have hu39c:=Hu26c.out
    have kf40c:=hu39c.free
    have kc41c:_=some (.string ⟨#[]⟩:Value):=hu39c.at_ 0
    have kc42c:_=some (.string ⟨#[]⟩:Value):=hu39c.at_ 1
    have kc43c:_=some (.string ⟨#[]⟩:Value):=hu39c.at_ 2
    have kc44c:_=some (.bool false:Value):=hu39c.at_ 3
    have kc45c:_=some (.slice none 0 0:Value):=hu39c.at_ 4
    clear hu39c
    go_wp2_with fail
    generalize w3.alloc (.cells #[.string ⟨#[]⟩,.string ⟨#[]⟩,.string ⟨#[]⟩,.bool false,.slice none 0 0] 47)=wg46c at *
    with_reducible refine (HH0.out _).mono ?_
    rintro e wn ⟨rfl,hw⟩
    replace hw:=hw.symm
    subst hw
    clear kx30c ky31c kp32c kq33c kx35c ky36c kp37c kq38c kf40c kc41c kc42c kc43c kc44c kc45c
    have ⟨kx48c,ky49c,kp50c,kq51c⟩:=Hd24c.out.q11
    have ⟨kx53c,ky54c,kp55c,kq56c⟩:=Hr25c.out.q11
    have hu57c:=Hu26c.out
    have kf58c:=hu57c.free
    have kc59c:_=some (.string ⟨#[]⟩:Value):=hu57c.at_ 0
    have kc60c:_=some (.string ⟨#[]⟩:Value):=hu57c.at_ 1
    have kc61c:_=some (.string ⟨#[]⟩:Value):=hu57c.at_ 2
    have kc62c:_=some (.bool false:Value):=hu57c.at_ 3
    have kc63c:_=some (.slice none 0 0:Value):=hu57c.at_ 4
    clear hu57c
    have HS:=yt HB28c.out Hr25c.out HLO6c.out (.slice A n c) (.slice A1 n1 c1)
    have z0:=HS.1.c0
    have z1:=HS.1.c1
    have HPOST:=za (show yx 8 L' N w (.returned (.tuple #[.agg #[.slice A n c,.slice A1 n1 c1],.int .i64 8])) _ from ⟨R,_,_,rfl,HRC.out.later HS.2.1,e2.symm,HNN.out.later HS.2.1,HS.2.1⟩)
    clear HS
    go_wp2
    refine bodyPost_ret (v:=.tuple #[.agg #[.slice A n c,.slice A1 n1 c1],.int .i64 8]) ?_ rfl HPOST.out
    simp [results,Tryz.results67,go_sem,z0,z1]
   | true =>
    rw [hh] at HU0
    obtain ⟨xx,hxx⟩:=qT hh
    have hdis:disU (ze R) s.data.toList=xx.dis:=by
     unfold disU; rw [xr,hxx]; rfl
    have HXX:Hid (∀ x,xJ R s.data.toList=some x→x=xx):=fun x h=>by rw [hxx] at h; injection h with h; exact h.symm
    have hset:fL (ze R) s.data.toList (fun u=>{ u with hs:=h.data.toList })=zP (ze R) s.data.toList ((fun u=>{ u with hs:=h.data.toList }) xx.u):=by
     unfold fL; rw [xr,hxx]; rfl
    cases hd:xx.dis with
    | true =>
     have e1:E=12:=by
      have:=HE.out
      rw [hname] at this
      rw [hhash] at this
      rw [hh] at this
      rw [hdis] at this
      rw [hd] at this
      exact this
     have e2:L'=ze R:=by
      have:=HL2.out
      rw [hname] at this
      rw [hhash] at this
      rw [hh] at this
      rw [hdis] at this
      rw [hd] at this
      exact this
     rw [e1]
     clear e1
     clear HE HL2 HPT0
     have Hd1dt:=za (zr w (.slice A n c) (.slice A1 n1 c1))
     have HLO2dt:Hid (w.heap.size≤w.heap.size):=Nat.le_refl _
     have HB3dt:Hid (Below w.heap.size w (w.alloc (.cells #[.slice A n c,.slice A1 n1 c1] zn))):=z7 (Below.refl _ _) _
     have Hd4dt:=za (Hd1dt.out.later (z7 (Below.refl _ _) (.cells #[.slice none 0 0,.slice none 0 0] zn)))
     have Hr5dt:Hid (yv ((w.alloc (.cells #[.slice A n c,.slice A1 n1 c1] zn)).alloc (.cells #[.slice none 0 0,.slice none 0 0] zn)) (w.heap.size+1) (.slice none 0 0) (.slice none 0 0)):=zi (by simp)
     have HLO6dt:Hid (w.heap.size≤w.heap.size+1):=by have:=HB3dt.out.size; show _≤_; simp at this; omega
     have HB7dt:=za (z8 HB3dt.out (z7 (Below.refl _ _) (.cells #[.slice none 0 0,.slice none 0 0] zn)))
     go_enter Tryz.func67,Tryz.ntmps67
     have ⟨kx9dt,ky10dt,kp11dt,kq12dt⟩:=Hd4dt.out.q11
     have ⟨kx14dt,ky15dt,kp16dt,kq17dt⟩:=Hr5dt.out.q11
     go_wp2_with fail
     generalize (w.alloc (.cells #[.slice A n c,.slice A1 n1 c1] zn)).alloc (.cells #[.slice none 0 0,.slice none 0 0] zn)=wg18dt at *
     with_reducible refine (HU0.out wg18dt HB7dt.out).mono ?_
     rintro e w3 ⟨t,x,he,hyes,hno,hb⟩
     clear kx9dt ky10dt kp11dt kq12dt kx14dt ky15dt kp16dt kq17dt
     have Hd19dt:=za (Hd4dt.out.later hb)
     have Hr20dt:=za (Hr5dt.out.later hb)
     have HB21dt:=za (z8 HB7dt.out hb)
     clear hb
     obtain ⟨ht,hx⟩:=hyes rfl
     obtain ⟨xh,xm,xd,xa,xg,xc⟩:=x
     obtain ⟨xl,hxl⟩:∃ l,l=xg.length:=⟨_,rfl⟩
     have he':e=.returned (.tuple #[.agg #[.string s,.string xh,.string xm,.bool xd,.slice xa xl xc],.int .i64 0]):=by
      rw [he,ht,hxl]; rfl
     subst he'
     have HXx:=za hx
     have HLx:=za hxl
     clear he hyes hno ht hx hxl
     obtain rfl:xd=true:=by have:=HXX.out _ HXx.out; rw [← hd,← this]
     have HLT22dt:=za (Hd19dt.out.lt)
     have HLT23dt:=za (Hr20dt.out.lt)
     have Hd24dt:=za (Hd19dt.out.later (z7 (Below.refl _ _) (.cells #[.string s,.string xh,.string xm,.bool true,.slice xa xl xc] 47)))
     have Hr25dt:=za (Hr20dt.out.later (z7 (Below.refl _ _) (.cells #[.string s,.string xh,.string xm,.bool true,.slice xa xl xc] 47)))
     have Hu26dt:Hid (yf (w3.alloc (.cells #[.string s,.string xh,.string xm,.bool true,.slice xa xl xc] 47)) (w3.heap.size) (.string s) (.string xh) (.string xm) (.bool true) (.slice xa xl xc)):=heap_alloc_new w3 _
     have HLO27dt:Hid (w.heap.size≤w3.heap.size):=by have:=HB21dt.out.size; show _≤_; exact this
     have HB28dt:=za (z8 HB21dt.out (z7 (Below.refl _ _) (.cells #[.string s,.string xh,.string xm,.bool true,.slice xa xl xc] 47)))
     have ⟨kx30dt,ky31dt,kp32dt,kq33dt⟩:=Hd24dt.out.q11
     have ⟨kx35dt,ky36dt,kp37dt,kq38dt⟩:=Hr25dt.out.q11
     have hu39dt:=Hu26dt.out
     have kf40dt:=hu39dt.free
     have kc41dt:_=some (.string s:Value):=hu39dt.at_ 0
     have kc42dt:_=some (.string xh:Value):=hu39dt.at_ 1
     have kc43dt:_=some (.string xm:Value):=hu39dt.at_ 2
     have kc44dt:_=some (.bool true:Value):=hu39dt.at_ 3
     have kc45dt:_=some (.slice xa xl xc:Value):=hu39dt.at_ 4
     clear hu39dt
     go_wp2_with fail
     generalize w3.alloc (.cells #[.string s,.string xh,.string xm,.bool true,.slice xa xl xc] 47)=wg46dt at *
     with_reducible refine (HH0.out _).mono ?_
     rintro e wn ⟨rfl,hw⟩
     replace hw:=hw.symm
     subst hw
     clear kx30dt ky31dt kp32dt kq33dt kx35dt ky36dt kp37dt kq38dt kf40dt kc41dt kc42dt kc43dt kc44dt kc45dt
     have ⟨kx48dt,ky49dt,kp50dt,kq51dt⟩:=Hd24dt.out.q11
     have ⟨kx53dt,ky54dt,kp55dt,kq56dt⟩:=Hr25dt.out.q11
     have hu57dt:=Hu26dt.out
     have kf58dt:=hu57dt.free
     have kc59dt:_=some (.string s:Value):=hu57dt.at_ 0
     have kc60dt:_=some (.string xh:Value):=hu57dt.at_ 1
     have kc61dt:_=some (.string xm:Value):=hu57dt.at_ 2
     have kc62dt:_=some (.bool true:Value):=hu57dt.at_ 3
     have kc63dt:_=some (.slice xa xl xc:Value):=hu57dt.at_ 4
     clear hu57dt
     have HS:=yt HB28dt.out Hr25dt.out HLO6dt.out (.slice A n c) (.slice A1 n1 c1)
     have z0:=HS.1.c0
     have z1:=HS.1.c1
     have HPOST:=za (show yx 12 L' N w (.returned (.tuple #[.agg #[.slice A n c,.slice A1 n1 c1],.int .i64 12])) _ from ⟨R,_,_,rfl,HRC.out.later HS.2.1,e2.symm,HNN.out.later HS.2.1,HS.2.1⟩)
     clear HS
     go_wp2
     refine bodyPost_ret (v:=.tuple #[.agg #[.slice A n c,.slice A1 n1 c1],.int .i64 12]) ?_ rfl HPOST.out
     simp [results,Tryz.results67,go_sem,z0,z1]
    | false =>
     have e1:E=0:=by
      have:=HE.out
      rw [hname] at this
      rw [hhash] at this
      rw [hh] at this
      rw [hdis] at this
      rw [hd] at this
      exact this
     have e2:L'=zP (ze R) s.data.toList ((fun u=>{ u with hs:=h.data.toList }) xx.u):=by
      have:=HL2.out
      rw [hname] at this
      rw [hhash] at this
      rw [hh] at this
      rw [hdis] at this
      rw [hd] at this
      rw [← hset]
      exact this
     rw [e1]
     clear e1 HE HL2
     have HE2:=za e2
     clear e2
     have Hd1df:=za (zr w (.slice A n c) (.slice A1 n1 c1))
     have HLO2df:Hid (w.heap.size≤w.heap.size):=Nat.le_refl _
     have HB3df:Hid (Below w.heap.size w (w.alloc (.cells #[.slice A n c,.slice A1 n1 c1] zn))):=z7 (Below.refl _ _) _
     have Hd4df:=za (Hd1df.out.later (z7 (Below.refl _ _) (.cells #[.slice none 0 0,.slice none 0 0] zn)))
     have Hr5df:Hid (yv ((w.alloc (.cells #[.slice A n c,.slice A1 n1 c1] zn)).alloc (.cells #[.slice none 0 0,.slice none 0 0] zn)) (w.heap.size+1) (.slice none 0 0) (.slice none 0 0)):=zi (by simp)
     have HLO6df:Hid (w.heap.size≤w.heap.size+1):=by have:=HB3df.out.size; show _≤_; simp at this; omega
     have HB7df:=za (z8 HB3df.out (z7 (Below.refl _ _) (.cells #[.slice none 0 0,.slice none 0 0] zn)))
     go_enter Tryz.func67,Tryz.ntmps67
     have ⟨kx9df,ky10df,kp11df,kq12df⟩:=Hd4df.out.q11
     have ⟨kx14df,ky15df,kp16df,kq17df⟩:=Hr5df.out.q11
     go_wp2_with fail
     generalize (w.alloc (.cells #[.slice A n c,.slice A1 n1 c1] zn)).alloc (.cells #[.slice none 0 0,.slice none 0 0] zn)=wg18df at *
     with_reducible refine (HU0.out wg18df HB7df.out).mono ?_
     rintro e w3 ⟨t,x,he,hyes,hno,hb⟩
     clear kx9df ky10df kp11df kq12df kx14df ky15df kp16df kq17df
     have Hd19df:=za (Hd4df.out.later hb)
     have Hr20df:=za (Hr5df.out.later hb)
     have HB21df:=za (z8 HB7df.out hb)
     clear hb
     obtain ⟨ht,hx⟩:=hyes rfl
     obtain ⟨xh,xm,xd,xa,xg,xc⟩:=x
     obtain ⟨xl,hxl⟩:∃ l,l=xg.length:=⟨_,rfl⟩
     have he':e=.returned (.tuple #[.agg #[.string s,.string xh,.string xm,.bool xd,.slice xa xl xc],.int .i64 0]):=by
      rw [he,ht,hxl]; rfl
     subst he'
     have HXx:=za hx
     have HLx:=za hxl
     clear he hyes hno ht hx hxl
     obtain rfl:xd=false:=by have:=HXX.out _ HXx.out; rw [← hd,← this]
     have HLT22df:=za (Hd19df.out.lt)
     have HLT23df:=za (Hr20df.out.lt)
     have Hd24df:=za (Hd19df.out.later (z7 (Below.refl _ _) (.cells #[.string s,.string xh,.string xm,.bool false,.slice xa xl xc] 47)))
     have Hr25df:=za (Hr20df.out.later (z7 (Below.refl _ _) (.cells #[.string s,.string xh,.string xm,.bool false,.slice xa xl xc] 47)))
     have Hu26df:Hid (yf (w3.alloc (.cells #[.string s,.string xh,.string xm,.bool false,.slice xa xl xc] 47)) (w3.heap.size) (.string s) (.string xh) (.string xm) (.bool false) (.slice xa xl xc)):=heap_alloc_new w3 _
     have HLO27df:Hid (w.heap.size≤w3.heap.size):=by have:=HB21df.out.size; show _≤_; exact this
     have HB28df:=za (z8 HB21df.out (z7 (Below.refl _ _) (.cells #[.string s,.string xh,.string xm,.bool false,.slice xa xl xc] 47)))
     have ⟨kx30df,ky31df,kp32df,kq33df⟩:=Hd24df.out.q11
     have ⟨kx35df,ky36df,kp37df,kq38df⟩:=Hr25df.out.q11
     have hu39df:=Hu26df.out
     have kf40df:=hu39df.free
     have kc41df:_=some (.string s:Value):=hu39df.at_ 0
     have kc42df:_=some (.string xh:Value):=hu39df.at_ 1
     have kc43df:_=some (.string xm:Value):=hu39df.at_ 2
     have kc44df:_=some (.bool false:Value):=hu39df.at_ 3
     have kc45df:_=some (.slice xa xl xc:Value):=hu39df.at_ 4
     clear hu39df
     go_wp2_with fail
     generalize w3.alloc (.cells #[.string s,.string xh,.string xm,.bool false,.slice xa xl xc] 47)=wg46df at *
     with_reducible refine (HH0.out _).mono ?_
     rintro e wn ⟨rfl,hw⟩
     replace hw:=hw.symm
     subst hw
     clear kx30df ky31df kp32df kq33df kx35df ky36df kp37df kq38df kf40df kc41df kc42df kc43df kc44df kc45df
     have ⟨kx48df,ky49df,kp50df,kq51df⟩:=Hd24df.out.q11
     have ⟨kx53df,ky54df,kp55df,kq56df⟩:=Hr25df.out.q11
     have hu57df:=Hu26df.out
     have kf58df:=hu57df.free
     have kc59df:_=some (.string s:Value):=hu57df.at_ 0
     have kc60df:_=some (.string xh:Value):=hu57df.at_ 1
     have kc61df:_=some (.string xm:Value):=hu57df.at_ 2
     have kc62df:_=some (.bool false:Value):=hu57df.at_ 3
     have kc63df:_=some (.slice xa xl xc:Value):=hu57df.at_ 4
     clear hu57df
     have Hd64df:=za (Hd24df.out.other (c:=w3.heap.size) (i:=1) (by have:=HLT22df.out; omega) (.string h))
     have Hr65df:=za (Hr25df.out.other (c:=w3.heap.size) (i:=1) (by have:=HLT23df.out; omega) (.string h))
     have Hu66df:=za (Hu26df.out.put111 (.string h))
     have HB67df:=za (HB28df.out.setCell (p:=⟨w3.heap.size,1,none⟩) HLO27df.out (.string h))
     have HPT:Hid (∀ W,Below w.heap.size w W→Calls Tryz.prog 145 #[.agg #[.slice A n c,.slice A1 n1 c1],.agg #[.string s,.string h,.string xm,.bool false,.slice xa xl xc]] W fun e w'=>∃ v',e=.returned (.agg #[v',.slice A1 n1 c1])∧vP (zP R s.data.toList ⟨h,xm,false,xa,xg,xc⟩) w' v'∧Below W.heap.size W w'):=fun W hb=>by
      have:=HPT0.out ⟨h,xm,false,xa,xg,xc⟩ W hb
      unfold zV at this
      dsimp only at this
      rw [← HLx.out] at this
      exact this
     clear HPT0
     have ⟨kx69df,ky70df,kp71df,kq72df⟩:=Hd64df.out.q11
     have ⟨kx74df,ky75df,kp76df,kq77df⟩:=Hr65df.out.q11
     have hu78df:=Hu66df.out
     have kf79df:=hu78df.free
     have kc80df:_=some (.string s:Value):=hu78df.at_ 0
     have kc81df:_=some (.string h:Value):=hu78df.at_ 1
     have kc82df:_=some (.string xm:Value):=hu78df.at_ 2
     have kc83df:_=some (.bool false:Value):=hu78df.at_ 3
     have kc84df:_=some (.slice xa xl xc:Value):=hu78df.at_ 4
     clear hu78df
     go_wp2_with fail
     generalize wg46df.setCell ⟨w3.heap.size,1,none⟩ (.string h)=wg85df at *
     with_reducible refine (HPT.out wg85df HB67df.out).mono ?_
     rintro e w6 ⟨v5,rfl,hp,hb⟩
     clear kx48df ky49df kp50df kq51df kx53df ky54df kp55df kq56df kf58df kc59df kc60df kc61df kc62df kc63df kx69df ky70df kp71df kq72df kx74df ky75df kp76df kq77df kf79df kc80df kc81df kc82df kc83df kc84df
     have Hd86df:=za (Hd64df.out.later hb)
     have Hr87df:=za (Hr65df.out.later hb)
     have Hu88df:=za (zh Hu66df.out hb)
     have HB89df:=za (z8 HB67df.out hb)
     obtain ⟨A5,c5,rfl⟩:=hp.us.shape
     have HP:=za hp
     clear hp
     obtain ⟨n5,hn5⟩:∃ m,m=(zP R s.data.toList (⟨h,xm,false,xa,xg,xc⟩:W11)).length:=⟨_,rfl⟩
     rw [← hn5] at HP ⊢
     clear hn5
     clear hb
     have HG5:Hid (qI 0 w6 (zP R s.data.toList ⟨h,xm,false,xa,xg,xc⟩)):=((HRC.out.later HB89df.out).2).put _ _ ((HRC.out.later HB89df.out).2 (s.data.toList,⟨xh,xm,false,xa,xg,xc⟩) ((zH HRI.out).1 HXx.out))
     have HPL:Hid (ze (zP R s.data.toList ⟨h,xm,false,xa,xg,xc⟩)=L'):=by
      show _=_
      rw [HE2.out,xS,← HXX.out _ HXx.out]
      rfl
     have ⟨kx91df,ky92df,kp93df,kq94df⟩:=Hd86df.out.q11
     have ⟨kx96df,ky97df,kp98df,kq99df⟩:=Hr87df.out.q11
     have hu100df:=Hu88df.out
     have kf101df:=hu100df.free
     have kc102df:_=some (.string s:Value):=hu100df.at_ 0
     have kc103df:_=some (.string h:Value):=hu100df.at_ 1
     have kc104df:_=some (.string xm:Value):=hu100df.at_ 2
     have kc105df:_=some (.bool false:Value):=hu100df.at_ 3
     have kc106df:_=some (.slice xa xl xc:Value):=hu100df.at_ 4
     clear hu100df
     have HS:=yt HB89df.out Hr87df.out HLO6df.out (.slice A5 n5 c5) (.slice A1 n1 c1)
     have z0:=HS.1.c0
     have z1:=HS.1.c1
     have HPOST:=za (show yx 0 L' N w (.returned (.tuple #[.agg #[.slice A5 n5 c5,.slice A1 n1 c1],.int .i64 0])) _ from ⟨_,_,_,rfl,⟨HP.out.keepD11 HS.2.2,HG5.out.keepD11 HS.2.2⟩,HPL.out,HNN.out.later HS.2.1,HS.2.1⟩)
     clear HS
     go_wp2
     refine bodyPost_ret (v:=.tuple #[.agg #[.slice A5 n5 c5,.slice A1 n1 c1],.int .i64 0]) ?_ rfl HPOST.out
     simp [results,Tryz.results67,go_sem,z0,z1]

set_option maxRecDepth 100000 in
theorem Y9 (v vg:Value) (R:zL W11) (N:List (List UInt8)) (s:ByteArray) (is_:Bool) (w:World) (hR:vQ 0 R w v) (hN:NmR w vg N) (h12:R.length≤12) (hr:zA R) (hn:s.size≤1000) :
  Calls Tryz.prog 70 #[.agg #[v,vg],.string s,.bool is_] w (yx (ddiE (ze R) s.data.toList is_) (ddiL (ze R) s.data.toList is_) N w):=by
 have hnot:∀ (x:Bool) (w:World),(Op.unary .not (.bool x)).run Tryz.prog w=.ok (.bool (!x)) w:=fun _ _=>rfl
 have hzu:=uz
 obtain ⟨A,c,rfl⟩:=hR.rw.us.shape
 obtain ⟨A1,c1,rfl⟩:=hN.shape
 have HU0:Hid (∀ W,Below w.heap.size w W→Calls Tryz.prog 143 #[.agg #[.slice A R.length c,.slice A1 N.length c1],.string s] W (qG R s W)):=fun W hb=>xR _ _ R N s W (hR.later hb) (hN.later hb) h12 hr hn
 have HPT0:Hid (∀ (x:W11) W,Below w.heap.size w W→Calls Tryz.prog 145 #[.agg #[.slice A R.length c,.slice A1 N.length c1],zV s x] W fun e w'=>∃ v',e=.returned (.agg #[v',.slice A1 N.length c1])∧vP (zP R s.data.toList x) w' v'∧Below W.heap.size W w'):=fun x W hb=>vp _ _ R N s x W (hR.rw.later hb) (hN.later hb) h12 hr
 have HRC:=za hR
 have HNN:=za hN
 have HRI:=za hr
 clear hR hN
 obtain ⟨n,hlen⟩:∃ n,n=R.length:=⟨_,rfl⟩
 obtain ⟨n1,hlen1⟩:∃ n,n=N.length:=⟨_,rfl⟩
 have HLR:=za hlen
 have HLN:=za hlen1
 unfold qG at HU0
 rw [← hlen] at HU0 HPT0 HRC ⊢
 rw [← hlen1] at HU0 HPT0 HNN ⊢
 clear hlen hlen1
 have HE:Hid (ddiE (ze R) s.data.toList is_=diF11 (zf s.data.toList) (zx R s.data.toList) (disU (ze R) s.data.toList == is_)):=by
  show _=_
  unfold ddiE; rw [xq]
 have HL2:Hid (ddiL (ze R) s.data.toList is_=if diF11 (zf s.data.toList) (zx R s.data.toList) (disU (ze R) s.data.toList == is_)=0 then fL (ze R) s.data.toList (fun u=>{ u with dis:=is_ }) else ze R):=by
  show _=_
  unfold ddiL; rw [HE.out]
 generalize ddiE (ze R) s.data.toList is_=E at *
 generalize ddiL (ze R) s.data.toList is_=L' at *
 cases hname:zf s.data.toList with
 | false =>
  rw [hname] at HU0
  have e1:E=10:=by
   have:=HE.out
   rw [hname] at this
   exact this
  have e2:L'=ze R:=by
   have:=HL2.out
   rw [hname] at this
   exact this
  rw [e1]
  clear e1
  clear HE HL2 HPT0
  have Hd1a:=za (zr w (.slice A n c) (.slice A1 n1 c1))
  have HLO2a:Hid (w.heap.size≤w.heap.size):=Nat.le_refl _
  have HB3a:Hid (Below w.heap.size w (w.alloc (.cells #[.slice A n c,.slice A1 n1 c1] zn))):=z7 (Below.refl _ _) _
  have Hd4a:=za (Hd1a.out.later (z7 (Below.refl _ _) (.cells #[.slice none 0 0,.slice none 0 0] zn)))
  have Hr5a:Hid (yv ((w.alloc (.cells #[.slice A n c,.slice A1 n1 c1] zn)).alloc (.cells #[.slice none 0 0,.slice none 0 0] zn)) (w.heap.size+1) (.slice none 0 0) (.slice none 0 0)):=zi (by simp)
  have HLO6a:Hid (w.heap.size≤w.heap.size+1):=by have:=HB3a.out.size; show _≤_; simp at this; omega
  have HB7a:=za (z8 HB3a.out (z7 (Below.refl _ _) (.cells #[.slice none 0 0,.slice none 0 0] zn)))
  go_enter Tryz.func70,Tryz.ntmps70
  have ⟨kx9a,ky10a,kp11a,kq12a⟩:=Hd4a.out.q11
  have ⟨kx14a,ky15a,kp16a,kq17a⟩:=Hr5a.out.q11
  go_wp2_with fail
  generalize (w.alloc (.cells #[.slice A n c,.slice A1 n1 c1] zn)).alloc (.cells #[.slice none 0 0,.slice none 0 0] zn)=wg18a at *
  with_reducible refine (HU0.out wg18a HB7a.out).mono ?_
  rintro e w3 ⟨t,x,he,hyes,hno,hb⟩
  clear kx9a ky10a kp11a kq12a kx14a ky15a kp16a kq17a
  have Hd19a:=za (Hd4a.out.later hb)
  have Hr20a:=za (Hr5a.out.later hb)
  have HB21a:=za (z8 HB7a.out hb)
  clear hb
  have he':e=.returned (.tuple #[.agg #[.string ⟨#[]⟩,.string ⟨#[]⟩,.string ⟨#[]⟩,.bool false,.slice none 0 0],.int .i64 10]):=by
   obtain ⟨h1,h2⟩:=hno (by show (10:Int)≠0; decide)
   rw [he,h1,h2]; rfl
  subst he'
  clear he hyes hno
  have HLT22a:=za (Hd19a.out.lt)
  have HLT23a:=za (Hr20a.out.lt)
  have Hd24a:=za (Hd19a.out.later (z7 (Below.refl _ _) (.cells #[.string ⟨#[]⟩,.string ⟨#[]⟩,.string ⟨#[]⟩,.bool false,.slice none 0 0] 47)))
  have Hr25a:=za (Hr20a.out.later (z7 (Below.refl _ _) (.cells #[.string ⟨#[]⟩,.string ⟨#[]⟩,.string ⟨#[]⟩,.bool false,.slice none 0 0] 47)))
  have Hu26a:Hid (yf (w3.alloc (.cells #[.string ⟨#[]⟩,.string ⟨#[]⟩,.string ⟨#[]⟩,.bool false,.slice none 0 0] 47)) (w3.heap.size) (.string ⟨#[]⟩) (.string ⟨#[]⟩) (.string ⟨#[]⟩) (.bool false) (.slice none 0 0)):=heap_alloc_new w3 _
  have HLO27a:Hid (w.heap.size≤w3.heap.size):=by have:=HB21a.out.size; show _≤_; exact this
  have HB28a:=za (z8 HB21a.out (z7 (Below.refl _ _) (.cells #[.string ⟨#[]⟩,.string ⟨#[]⟩,.string ⟨#[]⟩,.bool false,.slice none 0 0] 47)))
  have ⟨kx30a,ky31a,kp32a,kq33a⟩:=Hd24a.out.q11
  have ⟨kx35a,ky36a,kp37a,kq38a⟩:=Hr25a.out.q11
  have hu39a:=Hu26a.out
  have kf40a:=hu39a.free
  have kc41a:_=some (.string ⟨#[]⟩:Value):=hu39a.at_ 0
  have kc42a:_=some (.string ⟨#[]⟩:Value):=hu39a.at_ 1
  have kc43a:_=some (.string ⟨#[]⟩:Value):=hu39a.at_ 2
  have kc44a:_=some (.bool false:Value):=hu39a.at_ 3
  have kc45a:_=some (.slice none 0 0:Value):=hu39a.at_ 4
  clear hu39a
  have HS:=yt HB28a.out Hr25a.out HLO6a.out (.slice A n c) (.slice A1 n1 c1)
  have z0:=HS.1.c0
  have z1:=HS.1.c1
  have HPOST:=za (show yx 10 L' N w (.returned (.tuple #[.agg #[.slice A n c,.slice A1 n1 c1],.int .i64 10])) _ from ⟨R,_,_,rfl,HRC.out.later HS.2.1,e2.symm,HNN.out.later HS.2.1,HS.2.1⟩)
  clear HS
  go_wp2
  refine bodyPost_ret (v:=.tuple #[.agg #[.slice A n c,.slice A1 n1 c1],.int .i64 10]) ?_ rfl HPOST.out
  simp [results,Tryz.results70,go_sem,z0,z1]
 | true =>
  rw [hname] at HU0
  cases hh:zx R s.data.toList with
  | false =>
   rw [hh] at HU0
   have e1:E=8:=by
    have:=HE.out
    rw [hname] at this
    rw [hh] at this
    exact this
   have e2:L'=ze R:=by
    have:=HL2.out
    rw [hname] at this
    rw [hh] at this
    exact this
   rw [e1]
   clear e1
   clear HE HL2 HPT0
   have Hd1c:=za (zr w (.slice A n c) (.slice A1 n1 c1))
   have HLO2c:Hid (w.heap.size≤w.heap.size):=Nat.le_refl _
   have HB3c:Hid (Below w.heap.size w (w.alloc (.cells #[.slice A n c,.slice A1 n1 c1] zn))):=z7 (Below.refl _ _) _
   have Hd4c:=za (Hd1c.out.later (z7 (Below.refl _ _) (.cells #[.slice none 0 0,.slice none 0 0] zn)))
   have Hr5c:Hid (yv ((w.alloc (.cells #[.slice A n c,.slice A1 n1 c1] zn)).alloc (.cells #[.slice none 0 0,.slice none 0 0] zn)) (w.heap.size+1) (.slice none 0 0) (.slice none 0 0)):=zi (by simp)
   have HLO6c:Hid (w.heap.size≤w.heap.size+1):=by have:=HB3c.out.size; show _≤_; simp at this; omega
   have HB7c:=za (z8 HB3c.out (z7 (Below.refl _ _) (.cells #[.slice none 0 0,.slice none 0 0] zn)))
   go_enter Tryz.func70,Tryz.ntmps70
   have ⟨kx9c,ky10c,kp11c,kq12c⟩:=Hd4c.out.q11
   have ⟨kx14c,ky15c,kp16c,kq17c⟩:=Hr5c.out.q11
   go_wp2_with fail
   generalize (w.alloc (.cells #[.slice A n c,.slice A1 n1 c1] zn)).alloc (.cells #[.slice none 0 0,.slice none 0 0] zn)=wg18c at *
   with_reducible refine (HU0.out wg18c HB7c.out).mono ?_
   rintro e w3 ⟨t,x,he,hyes,hno,hb⟩
   clear kx9c ky10c kp11c kq12c kx14c ky15c kp16c kq17c
   have Hd19c:=za (Hd4c.out.later hb)
   have Hr20c:=za (Hr5c.out.later hb)
   have HB21c:=za (z8 HB7c.out hb)
   clear hb
   have he':e=.returned (.tuple #[.agg #[.string ⟨#[]⟩,.string ⟨#[]⟩,.string ⟨#[]⟩,.bool false,.slice none 0 0],.int .i64 8]):=by
    obtain ⟨h1,h2⟩:=hno (by show (8:Int)≠0; decide)
    rw [he,h1,h2]; rfl
   subst he'
   clear he hyes hno
   have HLT22c:=za (Hd19c.out.lt)
   have HLT23c:=za (Hr20c.out.lt)
   have Hd24c:=za (Hd19c.out.later (z7 (Below.refl _ _) (.cells #[.string ⟨#[]⟩,.string ⟨#[]⟩,.string ⟨#[]⟩,.bool false,.slice none 0 0] 47)))
   have Hr25c:=za (Hr20c.out.later (z7 (Below.refl _ _) (.cells #[.string ⟨#[]⟩,.string ⟨#[]⟩,.string ⟨#[]⟩,.bool false,.slice none 0 0] 47)))
   have Hu26c:Hid (yf (w3.alloc (.cells #[.string ⟨#[]⟩,.string ⟨#[]⟩,.string ⟨#[]⟩,.bool false,.slice none 0 0] 47)) (w3.heap.size) (.string ⟨#[]⟩) (.string ⟨#[]⟩) (.string ⟨#[]⟩) (.bool false) (.slice none 0 0)):=heap_alloc_new w3 _
   have HLO27c:Hid (w.heap.size≤w3.heap.size):=by have:=HB21c.out.size; show _≤_; exact this
   have HB28c:=za (z8 HB21c.out (z7 (Below.refl _ _) (.cells #[.string ⟨#[]⟩,.string ⟨#[]⟩,.string ⟨#[]⟩,.bool false,.slice none 0 0] 47)))
   have ⟨kx30c,ky31c,kp32c,kq33c⟩:=Hd24c.out.q11
   have ⟨kx35c,ky36c,kp37c,kq38c⟩:=Hr25c.out.q11
   have hu39c:=Hu26c.out
   have kf40c:=hu39c.free
   have kc41c:_=some (.string ⟨#[]⟩:Value):=hu39c.at_ 0
   have kc42c:_=some (.string ⟨#[]⟩:Value):=hu39c.at_ 1
   have kc43c:_=some (.string ⟨#[]⟩:Value):=hu39c.at_ 2
   have kc44c:_=some (.bool false:Value):=hu39c.at_ 3
   have kc45c:_=some (.slice none 0 0:Value):=hu39c.at_ 4
   clear hu39c
   have HS:=yt HB28c.out Hr25c.out HLO6c.out (.slice A n c) (.slice A1 n1 c1)
   have z0:=HS.1.c0
   have z1:=HS.1.c1
   have HPOST:=za (show yx 8 L' N w (.returned (.tuple #[.agg #[.slice A n c,.slice A1 n1 c1],.int .i64 8])) _ from ⟨R,_,_,rfl,HRC.out.later HS.2.1,e2.symm,HNN.out.later HS.2.1,HS.2.1⟩)
   clear HS
   go_wp2
   refine bodyPost_ret (v:=.tuple #[.agg #[.slice A n c,.slice A1 n1 c1],.int .i64 8]) ?_ rfl HPOST.out
   simp [results,Tryz.results70,go_sem,z0,z1]
  | true =>
   rw [hh] at HU0
   obtain ⟨xx,hxx⟩:=qT hh
   have hdis:disU (ze R) s.data.toList=xx.dis:=by
    unfold disU; rw [xr,hxx]; rfl
   have HXX:Hid (∀ x,xJ R s.data.toList=some x→x=xx):=fun x h=>by rw [hxx] at h; injection h with h; exact h.symm
   have hset:fL (ze R) s.data.toList (fun u=>{ u with dis:=is_ })=zP (ze R) s.data.toList ((fun u=>{ u with dis:=is_ }) xx.u):=by
    unfold fL; rw [xr,hxx]; rfl
   cases is_ with
   | true =>
    cases hd:xx.dis with
    | true =>
     have e1:E=12:=by
      have:=HE.out
      rw [hname] at this
      rw [hh] at this
      rw [hdis] at this
      rw [hd] at this
      exact this
     have e2:L'=ze R:=by
      have:=HL2.out
      rw [hname] at this
      rw [hh] at this
      rw [hdis] at this
      rw [hd] at this
      exact this
     rw [e1]
     clear e1
     clear HE HL2 HPT0
     have Hd1dtt:=za (zr w (.slice A n c) (.slice A1 n1 c1))
     have HLO2dtt:Hid (w.heap.size≤w.heap.size):=Nat.le_refl _
     have HB3dtt:Hid (Below w.heap.size w (w.alloc (.cells #[.slice A n c,.slice A1 n1 c1] zn))):=z7 (Below.refl _ _) _
     have Hd4dtt:=za (Hd1dtt.out.later (z7 (Below.refl _ _) (.cells #[.slice none 0 0,.slice none 0 0] zn)))
     have Hr5dtt:Hid (yv ((w.alloc (.cells #[.slice A n c,.slice A1 n1 c1] zn)).alloc (.cells #[.slice none 0 0,.slice none 0 0] zn)) (w.heap.size+1) (.slice none 0 0) (.slice none 0 0)):=zi (by simp)
     have HLO6dtt:Hid (w.heap.size≤w.heap.size+1):=by have:=HB3dtt.out.size; show _≤_; simp at this; omega
     have HB7dtt:=za (z8 HB3dtt.out (z7 (Below.refl _ _) (.cells #[.slice none 0 0,.slice none 0 0] zn)))
     go_enter Tryz.func70,Tryz.ntmps70
     have ⟨kx9dtt,ky10dtt,kp11dtt,kq12dtt⟩:=Hd4dtt.out.q11
     have ⟨kx14dtt,ky15dtt,kp16dtt,kq17dtt⟩:=Hr5dtt.out.q11
     go_wp2_with fail
     generalize (w.alloc (.cells #[.slice A n c,.slice A1 n1 c1] zn)).alloc (.cells #[.slice none 0 0,.slice none 0 0] zn)=wg18dtt at *
     with_reducible refine (HU0.out wg18dtt HB7dtt.out).mono ?_
     rintro e w3 ⟨t,x,he,hyes,hno,hb⟩
     clear kx9dtt ky10dtt kp11dtt kq12dtt kx14dtt ky15dtt kp16dtt kq17dtt
     have Hd19dtt:=za (Hd4dtt.out.later hb)
     have Hr20dtt:=za (Hr5dtt.out.later hb)
     have HB21dtt:=za (z8 HB7dtt.out hb)
     clear hb
     obtain ⟨ht,hx⟩:=hyes rfl
     obtain ⟨xh,xm,xd,xa,xg,xc⟩:=x
     obtain ⟨xl,hxl⟩:∃ l,l=xg.length:=⟨_,rfl⟩
     have he':e=.returned (.tuple #[.agg #[.string s,.string xh,.string xm,.bool xd,.slice xa xl xc],.int .i64 0]):=by
      rw [he,ht,hxl]; rfl
     subst he'
     have HXx:=za hx
     have HLx:=za hxl
     clear he hyes hno ht hx hxl
     obtain rfl:xd=true:=by have:=HXX.out _ HXx.out; rw [← hd,← this]
     have HLT22dtt:=za (Hd19dtt.out.lt)
     have HLT23dtt:=za (Hr20dtt.out.lt)
     have Hd24dtt:=za (Hd19dtt.out.later (z7 (Below.refl _ _) (.cells #[.string s,.string xh,.string xm,.bool true,.slice xa xl xc] 47)))
     have Hr25dtt:=za (Hr20dtt.out.later (z7 (Below.refl _ _) (.cells #[.string s,.string xh,.string xm,.bool true,.slice xa xl xc] 47)))
     have Hu26dtt:Hid (yf (w3.alloc (.cells #[.string s,.string xh,.string xm,.bool true,.slice xa xl xc] 47)) (w3.heap.size) (.string s) (.string xh) (.string xm) (.bool true) (.slice xa xl xc)):=heap_alloc_new w3 _
     have HLO27dtt:Hid (w.heap.size≤w3.heap.size):=by have:=HB21dtt.out.size; show _≤_; exact this
     have HB28dtt:=za (z8 HB21dtt.out (z7 (Below.refl _ _) (.cells #[.string s,.string xh,.string xm,.bool true,.slice xa xl xc] 47)))
     have ⟨kx30dtt,ky31dtt,kp32dtt,kq33dtt⟩:=Hd24dtt.out.q11
     have ⟨kx35dtt,ky36dtt,kp37dtt,kq38dtt⟩:=Hr25dtt.out.q11
     have hu39dtt:=Hu26dtt.out
     have kf40dtt:=hu39dtt.free
     have kc41dtt:_=some (.string s:Value):=hu39dtt.at_ 0
     have kc42dtt:_=some (.string xh:Value):=hu39dtt.at_ 1
     have kc43dtt:_=some (.string xm:Value):=hu39dtt.at_ 2
     have kc44dtt:_=some (.bool true:Value):=hu39dtt.at_ 3
     have kc45dtt:_=some (.slice xa xl xc:Value):=hu39dtt.at_ 4
     clear hu39dtt
     have HS:=yt HB28dtt.out Hr25dtt.out HLO6dtt.out (.slice A n c) (.slice A1 n1 c1)
     have z0:=HS.1.c0
     have z1:=HS.1.c1
     have HPOST:=za (show yx 12 L' N w (.returned (.tuple #[.agg #[.slice A n c,.slice A1 n1 c1],.int .i64 12])) _ from ⟨R,_,_,rfl,HRC.out.later HS.2.1,e2.symm,HNN.out.later HS.2.1,HS.2.1⟩)
     clear HS
     go_wp2
     refine bodyPost_ret (v:=.tuple #[.agg #[.slice A n c,.slice A1 n1 c1],.int .i64 12]) ?_ rfl HPOST.out
     simp [results,Tryz.results70,go_sem,z0,z1]
    | false =>
     have e1:E=0:=by
      have:=HE.out
      rw [hname] at this
      rw [hh] at this
      rw [hdis] at this
      rw [hd] at this
      exact this
     have e2:L'=zP (ze R) s.data.toList ((fun u=>{ u with dis:=true }) xx.u):=by
      have:=HL2.out
      rw [hname] at this
      rw [hh] at this
      rw [hdis] at this
      rw [hd] at this
      rw [← hset]
      exact this
     rw [e1]
     clear e1 HE HL2
     have HE2:=za e2
     clear e2
     have Hd1dft:=za (zr w (.slice A n c) (.slice A1 n1 c1))
     have HLO2dft:Hid (w.heap.size≤w.heap.size):=Nat.le_refl _
     have HB3dft:Hid (Below w.heap.size w (w.alloc (.cells #[.slice A n c,.slice A1 n1 c1] zn))):=z7 (Below.refl _ _) _
     have Hd4dft:=za (Hd1dft.out.later (z7 (Below.refl _ _) (.cells #[.slice none 0 0,.slice none 0 0] zn)))
     have Hr5dft:Hid (yv ((w.alloc (.cells #[.slice A n c,.slice A1 n1 c1] zn)).alloc (.cells #[.slice none 0 0,.slice none 0 0] zn)) (w.heap.size+1) (.slice none 0 0) (.slice none 0 0)):=zi (by simp)
     have HLO6dft:Hid (w.heap.size≤w.heap.size+1):=by have:=HB3dft.out.size; show _≤_; simp at this; omega
     have HB7dft:=za (z8 HB3dft.out (z7 (Below.refl _ _) (.cells #[.slice none 0 0,.slice none 0 0] zn)))
     go_enter Tryz.func70,Tryz.ntmps70
     have ⟨kx9dft,ky10dft,kp11dft,kq12dft⟩:=Hd4dft.out.q11
     have ⟨kx14dft,ky15dft,kp16dft,kq17dft⟩:=Hr5dft.out.q11
     go_wp2_with fail
     generalize (w.alloc (.cells #[.slice A n c,.slice A1 n1 c1] zn)).alloc (.cells #[.slice none 0 0,.slice none 0 0] zn)=wg18dft at *
     with_reducible refine (HU0.out wg18dft HB7dft.out).mono ?_
     rintro e w3 ⟨t,x,he,hyes,hno,hb⟩
     clear kx9dft ky10dft kp11dft kq12dft kx14dft ky15dft kp16dft kq17dft
     have Hd19dft:=za (Hd4dft.out.later hb)
     have Hr20dft:=za (Hr5dft.out.later hb)
     have HB21dft:=za (z8 HB7dft.out hb)
     clear hb
     obtain ⟨ht,hx⟩:=hyes rfl
     obtain ⟨xh,xm,xd,xa,xg,xc⟩:=x
     obtain ⟨xl,hxl⟩:∃ l,l=xg.length:=⟨_,rfl⟩
     have he':e=.returned (.tuple #[.agg #[.string s,.string xh,.string xm,.bool xd,.slice xa xl xc],.int .i64 0]):=by
      rw [he,ht,hxl]; rfl
     subst he'
     have HXx:=za hx
     have HLx:=za hxl
     clear he hyes hno ht hx hxl
     obtain rfl:xd=false:=by have:=HXX.out _ HXx.out; rw [← hd,← this]
     have HLT22dft:=za (Hd19dft.out.lt)
     have HLT23dft:=za (Hr20dft.out.lt)
     have Hd24dft:=za (Hd19dft.out.later (z7 (Below.refl _ _) (.cells #[.string s,.string xh,.string xm,.bool false,.slice xa xl xc] 47)))
     have Hr25dft:=za (Hr20dft.out.later (z7 (Below.refl _ _) (.cells #[.string s,.string xh,.string xm,.bool false,.slice xa xl xc] 47)))
     have Hu26dft:Hid (yf (w3.alloc (.cells #[.string s,.string xh,.string xm,.bool false,.slice xa xl xc] 47)) (w3.heap.size) (.string s) (.string xh) (.string xm) (.bool false) (.slice xa xl xc)):=heap_alloc_new w3 _
     have HLO27dft:Hid (w.heap.size≤w3.heap.size):=by have:=HB21dft.out.size; show _≤_; exact this
     have HB28dft:=za (z8 HB21dft.out (z7 (Below.refl _ _) (.cells #[.string s,.string xh,.string xm,.bool false,.slice xa xl xc] 47)))
     have ⟨kx30dft,ky31dft,kp32dft,kq33dft⟩:=Hd24dft.out.q11
     have ⟨kx35dft,ky36dft,kp37dft,kq38dft⟩:=Hr25dft.out.q11
     have hu39dft:=Hu26dft.out
     have kf40dft:=hu39dft.free
     have kc41dft:_=some (.string s:Value):=hu39dft.at_ 0
     have kc42dft:_=some (.string xh:Value):=hu39dft.at_ 1
     have kc43dft:_=some (.string xm:Value):=hu39dft.at_ 2
     have kc44dft:_=some (.bool false:Value):=hu39dft.at_ 3
     have kc45dft:_=some (.slice xa xl xc:Value):=hu39dft.at_ 4
     clear hu39dft
     have HLT46dft:=za (Hd19dft.out.lt)
     have HLT47dft:=za (Hr20dft.out.lt)
     have Hd48dft:=za (Hd19dft.out.later (z7 (Below.refl _ _) (.cells #[.string s,.string xh,.string xm,.bool true,.slice xa xl xc] 47)))
     have Hr49dft:=za (Hr20dft.out.later (z7 (Below.refl _ _) (.cells #[.string s,.string xh,.string xm,.bool true,.slice xa xl xc] 47)))
     have Hu50dft:Hid (yf (w3.alloc (.cells #[.string s,.string xh,.string xm,.bool true,.slice xa xl xc] 47)) (w3.heap.size) (.string s) (.string xh) (.string xm) (.bool true) (.slice xa xl xc)):=heap_alloc_new w3 _
     have HLO51dft:Hid (w.heap.size≤w3.heap.size):=by have:=HB21dft.out.size; show _≤_; exact this
     have HB52dft:=za (z8 HB21dft.out (z7 (Below.refl _ _) (.cells #[.string s,.string xh,.string xm,.bool true,.slice xa xl xc] 47)))
     have HPT:Hid (∀ W,Below w.heap.size w W→Calls Tryz.prog 145 #[.agg #[.slice A n c,.slice A1 n1 c1],.agg #[.string s,.string xh,.string xm,.bool true,.slice xa xl xc]] W fun e w'=>∃ v',e=.returned (.agg #[v',.slice A1 n1 c1])∧vP (zP R s.data.toList ⟨xh,xm,true,xa,xg,xc⟩) w' v'∧Below W.heap.size W w'):=fun W hb=>by
      have:=HPT0.out ⟨xh,xm,true,xa,xg,xc⟩ W hb
      unfold zV at this
      dsimp only at this
      rw [← HLx.out] at this
      exact this
     clear HPT0
     have ⟨kx54dft,ky55dft,kp56dft,kq57dft⟩:=Hd48dft.out.q11
     have ⟨kx59dft,ky60dft,kp61dft,kq62dft⟩:=Hr49dft.out.q11
     have hu63dft:=Hu50dft.out
     have kf64dft:=hu63dft.free
     have kc65dft:_=some (.string s:Value):=hu63dft.at_ 0
     have kc66dft:_=some (.string xh:Value):=hu63dft.at_ 1
     have kc67dft:_=some (.string xm:Value):=hu63dft.at_ 2
     have kc68dft:_=some (.bool true:Value):=hu63dft.at_ 3
     have kc69dft:_=some (.slice xa xl xc:Value):=hu63dft.at_ 4
     clear hu63dft
     go_wp2_with fail
     generalize w3.alloc (.cells #[.string s,.string xh,.string xm,.bool true,.slice xa xl xc] 47)=wg70dft at *
     with_reducible refine (HPT.out wg70dft HB52dft.out).mono ?_
     rintro e w6 ⟨v5,rfl,hp,hb⟩
     clear kx30dft ky31dft kp32dft kq33dft kx35dft ky36dft kp37dft kq38dft kf40dft kc41dft kc42dft kc43dft kc44dft kc45dft kx54dft ky55dft kp56dft kq57dft kx59dft ky60dft kp61dft kq62dft kf64dft kc65dft kc66dft kc67dft kc68dft kc69dft
     have Hd71dft:=za (Hd48dft.out.later hb)
     have Hr72dft:=za (Hr49dft.out.later hb)
     have Hu73dft:=za (zh Hu50dft.out hb)
     have HB74dft:=za (z8 HB52dft.out hb)
     obtain ⟨A5,c5,rfl⟩:=hp.us.shape
     have HP:=za hp
     clear hp
     obtain ⟨n5,hn5⟩:∃ m,m=(zP R s.data.toList (⟨xh,xm,true,xa,xg,xc⟩:W11)).length:=⟨_,rfl⟩
     rw [← hn5] at HP ⊢
     clear hn5
     clear hb
     have HG5:Hid (qI 0 w6 (zP R s.data.toList ⟨xh,xm,true,xa,xg,xc⟩)):=((HRC.out.later HB74dft.out).2).put _ _ ((HRC.out.later HB74dft.out).2 (s.data.toList,⟨xh,xm,false,xa,xg,xc⟩) ((zH HRI.out).1 HXx.out))
     have HPL:Hid (ze (zP R s.data.toList ⟨xh,xm,true,xa,xg,xc⟩)=L'):=by
      show _=_
      rw [HE2.out,xS,← HXX.out _ HXx.out]
      rfl
     have ⟨kx76dft,ky77dft,kp78dft,kq79dft⟩:=Hd71dft.out.q11
     have ⟨kx81dft,ky82dft,kp83dft,kq84dft⟩:=Hr72dft.out.q11
     have hu85dft:=Hu73dft.out
     have kf86dft:=hu85dft.free
     have kc87dft:_=some (.string s:Value):=hu85dft.at_ 0
     have kc88dft:_=some (.string xh:Value):=hu85dft.at_ 1
     have kc89dft:_=some (.string xm:Value):=hu85dft.at_ 2
     have kc90dft:_=some (.bool true:Value):=hu85dft.at_ 3
     have kc91dft:_=some (.slice xa xl xc:Value):=hu85dft.at_ 4
     clear hu85dft
     have HS:=yt HB74dft.out Hr72dft.out HLO6dft.out (.slice A5 n5 c5) (.slice A1 n1 c1)
     have z0:=HS.1.c0
     have z1:=HS.1.c1
     have HPOST:=za (show yx 0 L' N w (.returned (.tuple #[.agg #[.slice A5 n5 c5,.slice A1 n1 c1],.int .i64 0])) _ from ⟨_,_,_,rfl,⟨HP.out.keepD11 HS.2.2,HG5.out.keepD11 HS.2.2⟩,HPL.out,HNN.out.later HS.2.1,HS.2.1⟩)
     clear HS
     go_wp2
     refine bodyPost_ret (v:=.tuple #[.agg #[.slice A5 n5 c5,.slice A1 n1 c1],.int .i64 0]) ?_ rfl HPOST.out
     simp [results,Tryz.results70,go_sem,z0,z1]
   | false =>
    cases hd:xx.dis with
    | true =>
     have e1:E=0:=by
      have:=HE.out
      rw [hname] at this
      rw [hh] at this
      rw [hdis] at this
      rw [hd] at this
      exact this
     have e2:L'=zP (ze R) s.data.toList ((fun u=>{ u with dis:=false }) xx.u):=by
      have:=HL2.out
      rw [hname] at this
      rw [hh] at this
      rw [hdis] at this
      rw [hd] at this
      rw [← hset]
      exact this
     rw [e1]
     clear e1 HE HL2
     have HE2:=za e2
     clear e2
     have Hd1dtf:=za (zr w (.slice A n c) (.slice A1 n1 c1))
     have HLO2dtf:Hid (w.heap.size≤w.heap.size):=Nat.le_refl _
     have HB3dtf:Hid (Below w.heap.size w (w.alloc (.cells #[.slice A n c,.slice A1 n1 c1] zn))):=z7 (Below.refl _ _) _
     have Hd4dtf:=za (Hd1dtf.out.later (z7 (Below.refl _ _) (.cells #[.slice none 0 0,.slice none 0 0] zn)))
     have Hr5dtf:Hid (yv ((w.alloc (.cells #[.slice A n c,.slice A1 n1 c1] zn)).alloc (.cells #[.slice none 0 0,.slice none 0 0] zn)) (w.heap.size+1) (.slice none 0 0) (.slice none 0 0)):=zi (by simp)
     have HLO6dtf:Hid (w.heap.size≤w.heap.size+1):=by have:=HB3dtf.out.size; show _≤_; simp at this; omega
     have HB7dtf:=za (z8 HB3dtf.out (z7 (Below.refl _ _) (.cells #[.slice none 0 0,.slice none 0 0] zn)))
     go_enter Tryz.func70,Tryz.ntmps70
     have ⟨kx9dtf,ky10dtf,kp11dtf,kq12dtf⟩:=Hd4dtf.out.q11
     have ⟨kx14dtf,ky15dtf,kp16dtf,kq17dtf⟩:=Hr5dtf.out.q11
     go_wp2_with fail
     generalize (w.alloc (.cells #[.slice A n c,.slice A1 n1 c1] zn)).alloc (.cells #[.slice none 0 0,.slice none 0 0] zn)=wg18dtf at *
     with_reducible refine (HU0.out wg18dtf HB7dtf.out).mono ?_
     rintro e w3 ⟨t,x,he,hyes,hno,hb⟩
     clear kx9dtf ky10dtf kp11dtf kq12dtf kx14dtf ky15dtf kp16dtf kq17dtf
     have Hd19dtf:=za (Hd4dtf.out.later hb)
     have Hr20dtf:=za (Hr5dtf.out.later hb)
     have HB21dtf:=za (z8 HB7dtf.out hb)
     clear hb
     obtain ⟨ht,hx⟩:=hyes rfl
     obtain ⟨xh,xm,xd,xa,xg,xc⟩:=x
     obtain ⟨xl,hxl⟩:∃ l,l=xg.length:=⟨_,rfl⟩
     have he':e=.returned (.tuple #[.agg #[.string s,.string xh,.string xm,.bool xd,.slice xa xl xc],.int .i64 0]):=by
      rw [he,ht,hxl]; rfl
     subst he'
     have HXx:=za hx
     have HLx:=za hxl
     clear he hyes hno ht hx hxl
     obtain rfl:xd=true:=by have:=HXX.out _ HXx.out; rw [← hd,← this]
     have HLT22dtf:=za (Hd19dtf.out.lt)
     have HLT23dtf:=za (Hr20dtf.out.lt)
     have Hd24dtf:=za (Hd19dtf.out.later (z7 (Below.refl _ _) (.cells #[.string s,.string xh,.string xm,.bool true,.slice xa xl xc] 47)))
     have Hr25dtf:=za (Hr20dtf.out.later (z7 (Below.refl _ _) (.cells #[.string s,.string xh,.string xm,.bool true,.slice xa xl xc] 47)))
     have Hu26dtf:Hid (yf (w3.alloc (.cells #[.string s,.string xh,.string xm,.bool true,.slice xa xl xc] 47)) (w3.heap.size) (.string s) (.string xh) (.string xm) (.bool true) (.slice xa xl xc)):=heap_alloc_new w3 _
     have HLO27dtf:Hid (w.heap.size≤w3.heap.size):=by have:=HB21dtf.out.size; show _≤_; exact this
     have HB28dtf:=za (z8 HB21dtf.out (z7 (Below.refl _ _) (.cells #[.string s,.string xh,.string xm,.bool true,.slice xa xl xc] 47)))
     have ⟨kx30dtf,ky31dtf,kp32dtf,kq33dtf⟩:=Hd24dtf.out.q11
     have ⟨kx35dtf,ky36dtf,kp37dtf,kq38dtf⟩:=Hr25dtf.out.q11
     have hu39dtf:=Hu26dtf.out
     have kf40dtf:=hu39dtf.free
     have kc41dtf:_=some (.string s:Value):=hu39dtf.at_ 0
     have kc42dtf:_=some (.string xh:Value):=hu39dtf.at_ 1
     have kc43dtf:_=some (.string xm:Value):=hu39dtf.at_ 2
     have kc44dtf:_=some (.bool true:Value):=hu39dtf.at_ 3
     have kc45dtf:_=some (.slice xa xl xc:Value):=hu39dtf.at_ 4
     clear hu39dtf
     have HLT46dtf:=za (Hd19dtf.out.lt)
     have HLT47dtf:=za (Hr20dtf.out.lt)
     have Hd48dtf:=za (Hd19dtf.out.later (z7 (Below.refl _ _) (.cells #[.string s,.string xh,.string xm,.bool false,.slice xa xl xc] 47)))
     have Hr49dtf:=za (Hr20dtf.out.later (z7 (Below.refl _ _) (.cells #[.string s,.string xh,.string xm,.bool false,.slice xa xl xc] 47)))
     have Hu50dtf:Hid (yf (w3.alloc (.cells #[.string s,.string xh,.string xm,.bool false,.slice xa xl xc] 47)) (w3.heap.size) (.string s) (.string xh) (.string xm) (.bool false) (.slice xa xl xc)):=heap_alloc_new w3 _
     have HLO51dtf:Hid (w.heap.size≤w3.heap.size):=by have:=HB21dtf.out.size; show _≤_; exact this
     have HB52dtf:=za (z8 HB21dtf.out (z7 (Below.refl _ _) (.cells #[.string s,.string xh,.string xm,.bool false,.slice xa xl xc] 47)))
     have HPT:Hid (∀ W,Below w.heap.size w W→Calls Tryz.prog 145 #[.agg #[.slice A n c,.slice A1 n1 c1],.agg #[.string s,.string xh,.string xm,.bool false,.slice xa xl xc]] W fun e w'=>∃ v',e=.returned (.agg #[v',.slice A1 n1 c1])∧vP (zP R s.data.toList ⟨xh,xm,false,xa,xg,xc⟩) w' v'∧Below W.heap.size W w'):=fun W hb=>by
      have:=HPT0.out ⟨xh,xm,false,xa,xg,xc⟩ W hb
      unfold zV at this
      dsimp only at this
      rw [← HLx.out] at this
      exact this
     clear HPT0
     have ⟨kx54dtf,ky55dtf,kp56dtf,kq57dtf⟩:=Hd48dtf.out.q11
     have ⟨kx59dtf,ky60dtf,kp61dtf,kq62dtf⟩:=Hr49dtf.out.q11
     have hu63dtf:=Hu50dtf.out
     have kf64dtf:=hu63dtf.free
     have kc65dtf:_=some (.string s:Value):=hu63dtf.at_ 0
     have kc66dtf:_=some (.string xh:Value):=hu63dtf.at_ 1
     have kc67dtf:_=some (.string xm:Value):=hu63dtf.at_ 2
     have kc68dtf:_=some (.bool false:Value):=hu63dtf.at_ 3
     have kc69dtf:_=some (.slice xa xl xc:Value):=hu63dtf.at_ 4
     clear hu63dtf
     go_wp2_with fail
     generalize w3.alloc (.cells #[.string s,.string xh,.string xm,.bool false,.slice xa xl xc] 47)=wg70dtf at *
     with_reducible refine (HPT.out wg70dtf HB52dtf.out).mono ?_
     rintro e w6 ⟨v5,rfl,hp,hb⟩
     clear kx30dtf ky31dtf kp32dtf kq33dtf kx35dtf ky36dtf kp37dtf kq38dtf kf40dtf kc41dtf kc42dtf kc43dtf kc44dtf kc45dtf kx54dtf ky55dtf kp56dtf kq57dtf kx59dtf ky60dtf kp61dtf kq62dtf kf64dtf kc65dtf kc66dtf kc67dtf kc68dtf kc69dtf
     have Hd71dtf:=za (Hd48dtf.out.later hb)
     have Hr72dtf:=za (Hr49dtf.out.later hb)
     have Hu73dtf:=za (zh Hu50dtf.out hb)
     have HB74dtf:=za (z8 HB52dtf.out hb)
     obtain ⟨A5,c5,rfl⟩:=hp.us.shape
     have HP:=za hp
     clear hp
     obtain ⟨n5,hn5⟩:∃ m,m=(zP R s.data.toList (⟨xh,xm,false,xa,xg,xc⟩:W11)).length:=⟨_,rfl⟩
     rw [← hn5] at HP ⊢
     clear hn5
     clear hb
     have HG5:Hid (qI 0 w6 (zP R s.data.toList ⟨xh,xm,false,xa,xg,xc⟩)):=((HRC.out.later HB74dtf.out).2).put _ _ ((HRC.out.later HB74dtf.out).2 (s.data.toList,⟨xh,xm,true,xa,xg,xc⟩) ((zH HRI.out).1 HXx.out))
     have HPL:Hid (ze (zP R s.data.toList ⟨xh,xm,false,xa,xg,xc⟩)=L'):=by
      show _=_
      rw [HE2.out,xS,← HXX.out _ HXx.out]
      rfl
     have ⟨kx76dtf,ky77dtf,kp78dtf,kq79dtf⟩:=Hd71dtf.out.q11
     have ⟨kx81dtf,ky82dtf,kp83dtf,kq84dtf⟩:=Hr72dtf.out.q11
     have hu85dtf:=Hu73dtf.out
     have kf86dtf:=hu85dtf.free
     have kc87dtf:_=some (.string s:Value):=hu85dtf.at_ 0
     have kc88dtf:_=some (.string xh:Value):=hu85dtf.at_ 1
     have kc89dtf:_=some (.string xm:Value):=hu85dtf.at_ 2
     have kc90dtf:_=some (.bool false:Value):=hu85dtf.at_ 3
     have kc91dtf:_=some (.slice xa xl xc:Value):=hu85dtf.at_ 4
     clear hu85dtf
     have HS:=yt HB74dtf.out Hr72dtf.out HLO6dtf.out (.slice A5 n5 c5) (.slice A1 n1 c1)
     have z0:=HS.1.c0
     have z1:=HS.1.c1
     have HPOST:=za (show yx 0 L' N w (.returned (.tuple #[.agg #[.slice A5 n5 c5,.slice A1 n1 c1],.int .i64 0])) _ from ⟨_,_,_,rfl,⟨HP.out.keepD11 HS.2.2,HG5.out.keepD11 HS.2.2⟩,HPL.out,HNN.out.later HS.2.1,HS.2.1⟩)
     clear HS
     go_wp2
     refine bodyPost_ret (v:=.tuple #[.agg #[.slice A5 n5 c5,.slice A1 n1 c1],.int .i64 0]) ?_ rfl HPOST.out
     simp [results,Tryz.results70,go_sem,z0,z1]
    | false =>
     have e1:E=12:=by
      have:=HE.out
      rw [hname] at this
      rw [hh] at this
      rw [hdis] at this
      rw [hd] at this
      exact this
     have e2:L'=ze R:=by
      have:=HL2.out
      rw [hname] at this
      rw [hh] at this
      rw [hdis] at this
      rw [hd] at this
      exact this
     rw [e1]
     clear e1
     clear HE HL2 HPT0
     have Hd1dff:=za (zr w (.slice A n c) (.slice A1 n1 c1))
     have HLO2dff:Hid (w.heap.size≤w.heap.size):=Nat.le_refl _
     have HB3dff:Hid (Below w.heap.size w (w.alloc (.cells #[.slice A n c,.slice A1 n1 c1] zn))):=z7 (Below.refl _ _) _
     have Hd4dff:=za (Hd1dff.out.later (z7 (Below.refl _ _) (.cells #[.slice none 0 0,.slice none 0 0] zn)))
     have Hr5dff:Hid (yv ((w.alloc (.cells #[.slice A n c,.slice A1 n1 c1] zn)).alloc (.cells #[.slice none 0 0,.slice none 0 0] zn)) (w.heap.size+1) (.slice none 0 0) (.slice none 0 0)):=zi (by simp)
     have HLO6dff:Hid (w.heap.size≤w.heap.size+1):=by have:=HB3dff.out.size; show _≤_; simp at this; omega
     have HB7dff:=za (z8 HB3dff.out (z7 (Below.refl _ _) (.cells #[.slice none 0 0,.slice none 0 0] zn)))
     go_enter Tryz.func70,Tryz.ntmps70
     have ⟨kx9dff,ky10dff,kp11dff,kq12dff⟩:=Hd4dff.out.q11
     have ⟨kx14dff,ky15dff,kp16dff,kq17dff⟩:=Hr5dff.out.q11
     go_wp2_with fail
     generalize (w.alloc (.cells #[.slice A n c,.slice A1 n1 c1] zn)).alloc (.cells #[.slice none 0 0,.slice none 0 0] zn)=wg18dff at *
     with_reducible refine (HU0.out wg18dff HB7dff.out).mono ?_
     rintro e w3 ⟨t,x,he,hyes,hno,hb⟩
     clear kx9dff ky10dff kp11dff kq12dff kx14dff ky15dff kp16dff kq17dff
     have Hd19dff:=za (Hd4dff.out.later hb)
     have Hr20dff:=za (Hr5dff.out.later hb)
     have HB21dff:=za (z8 HB7dff.out hb)
     clear hb
     obtain ⟨ht,hx⟩:=hyes rfl
     obtain ⟨xh,xm,xd,xa,xg,xc⟩:=x
     obtain ⟨xl,hxl⟩:∃ l,l=xg.length:=⟨_,rfl⟩
     have he':e=.returned (.tuple #[.agg #[.string s,.string xh,.string xm,.bool xd,.slice xa xl xc],.int .i64 0]):=by
      rw [he,ht,hxl]; rfl
     subst he'
     have HXx:=za hx
     have HLx:=za hxl
     clear he hyes hno ht hx hxl
     obtain rfl:xd=false:=by have:=HXX.out _ HXx.out; rw [← hd,← this]
     have HLT22dff:=za (Hd19dff.out.lt)
     have HLT23dff:=za (Hr20dff.out.lt)
     have Hd24dff:=za (Hd19dff.out.later (z7 (Below.refl _ _) (.cells #[.string s,.string xh,.string xm,.bool false,.slice xa xl xc] 47)))
     have Hr25dff:=za (Hr20dff.out.later (z7 (Below.refl _ _) (.cells #[.string s,.string xh,.string xm,.bool false,.slice xa xl xc] 47)))
     have Hu26dff:Hid (yf (w3.alloc (.cells #[.string s,.string xh,.string xm,.bool false,.slice xa xl xc] 47)) (w3.heap.size) (.string s) (.string xh) (.string xm) (.bool false) (.slice xa xl xc)):=heap_alloc_new w3 _
     have HLO27dff:Hid (w.heap.size≤w3.heap.size):=by have:=HB21dff.out.size; show _≤_; exact this
     have HB28dff:=za (z8 HB21dff.out (z7 (Below.refl _ _) (.cells #[.string s,.string xh,.string xm,.bool false,.slice xa xl xc] 47)))
     have ⟨kx30dff,ky31dff,kp32dff,kq33dff⟩:=Hd24dff.out.q11
     have ⟨kx35dff,ky36dff,kp37dff,kq38dff⟩:=Hr25dff.out.q11
     have hu39dff:=Hu26dff.out
     have kf40dff:=hu39dff.free
     have kc41dff:_=some (.string s:Value):=hu39dff.at_ 0
     have kc42dff:_=some (.string xh:Value):=hu39dff.at_ 1
     have kc43dff:_=some (.string xm:Value):=hu39dff.at_ 2
     have kc44dff:_=some (.bool false:Value):=hu39dff.at_ 3
     have kc45dff:_=some (.slice xa xl xc:Value):=hu39dff.at_ 4
     clear hu39dff
     have HS:=yt HB28dff.out Hr25dff.out HLO6dff.out (.slice A n c) (.slice A1 n1 c1)
     have z0:=HS.1.c0
     have z1:=HS.1.c1
     have HPOST:=za (show yx 12 L' N w (.returned (.tuple #[.agg #[.slice A n c,.slice A1 n1 c1],.int .i64 12])) _ from ⟨R,_,_,rfl,HRC.out.later HS.2.1,e2.symm,HNN.out.later HS.2.1,HS.2.1⟩)
     clear HS
     go_wp2
     refine bodyPost_ret (v:=.tuple #[.agg #[.slice A n c,.slice A1 n1 c1],.int .i64 12]) ?_ rfl HPOST.out
     simp [results,Tryz.results70,go_sem,z0,z1]
end Go.Proofs.YthmomkjingcbiaaGreatDoor
