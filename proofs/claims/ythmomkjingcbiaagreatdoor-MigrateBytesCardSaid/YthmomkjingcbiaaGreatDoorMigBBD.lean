/-
  The texts that the laws of this seat share, part 4: what the code and the document's own answers tell, walked function by function.
  Conditions: each theorem's own.
-/
import Derived.Laws.Tables
import Derived.SizedLaws
import Derived.Test.YthmomkjingcbiaaGreatDoorMigBBC
set_option maxHeartbeats 16000000
namespace Go.Proofs.YthmomkjingcbiaaGreatDoor
open Go.RowKit

theorem jA:(Tryz.prog.info? 117).map (·.size)=some 2:=by kernel_rfl
theorem YK:(Tryz.prog.info? 47).map (·.size)=some 5:=by kernel_rfl
theorem yZ {W:World} {o:Obj} {n:Nat} (h:W.heap.size=n):(W.alloc o).heap[n]? = some o:=h ▸ heap_alloc_new W o
theorem yl {W:World} {o x:Obj} {k:Nat} (h:W.heap[k]? = some x):(W.alloc o).heap[k]? = some x :=
 (((zb.refl (fun _=>False) W).alloc o).block k (Array.getElem?_eq_some_iff.1 h).1 (fun f=>f)).trans h
theorem zJ {P:Program} {ops:Array Oper} {o:Oper} {a:Act} {w:World} {K:Act→World→Prop} {Q:Exit→Act→World→Prop} {E:Prop} (hw:Region.wanted o (yielded ops a.tmps)=true) (ty:TypeId) (x y:Operand) (ho:o.op=.store ty x y)
  (B:Nat) (hx:a.eval x=.pointer (some ⟨B,0,none⟩)) (cs:Array Value) (hy:a.eval y=.agg cs) (t:TypeId) (old:Array Value) (hn:w.heap[B]? = some (.cells old t (0,0))) (hi:(P.info? ty).map (·.size)=some cs.size) (hold:old.size=cs.size) (h1:cs.all (·.oneCell')=true)
  (h:K (a.put o.dst undef) (w.setRow B cs)):if Region.wanted o (yielded ops a.tmps)=true then Oper.wp P o a w K Q else E:=by
 rw [if_pos hw]
 exact wp_store_row ty x y ho B cs hx hy t old hn hi hold h1 h

structure Rf6 (w:World) (rs qs ys:Array Value) (vs:Option (Array Value)) (W:World):Prop where
 r:W.heap[w.heap.size]? = some (.cells rs 117 (0,0))
 q:W.heap[w.heap.size+1]? = some (.cells qs 117 (0,0))
 y:W.heap[w.heap.size+2]? = some (.cells ys 47 (0,0))
 z:W.heap[w.heap.size+3]? = some (.cells #[.string ⟨#[]⟩,.string ⟨#[]⟩,.string ⟨#[]⟩,.bool false,.slice none 0 0] 47 (0,0))
 v:∀ xs,vs=some xs→W.heap[w.heap.size+4]? = some (.cells xs 47 (0,0))
 t:zb (fun _=>False) w W
def Yy (w:World) (A:Option Addr) (gs:List ByteArray) (c:Nat) (W:World):Prop:=W.ownsRow 0 9 1 (.slice A gs.length c) gs.length (gs.map Value.string)∧∀ j,Value.ownBlock (.slice A gs.length c)=some j→w.heap.size+5≤j
theorem Yy.none (w W:World):Yy w none [] 0 W:=⟨World.ownsRow_nil _ _ _ _,by simp [Value.ownBlock]⟩
theorem Yy.turns {w W W':World} {A:Option Addr} {gs:List ByteArray} {c:Nat} {S:Nat→Prop} (h:Yy w A gs c W) (ht:zb S W W') (hS:∀ j,S j→j<w.heap.size+5):Yy w A gs c W' :=
 ⟨ht.owns h.1 (fun j hj hs=>by have:=h.2 j hj; have:=hS j hs; omega),h.2⟩
theorem Yy.below {w W W':World} {A:Option Addr} {gs:List ByteArray} {c:Nat} (h:Yy w A gs c W) (hb:Below W.heap.size W W'):Yy w A gs c W':=h.turns (zb.of_below hb (fun _=>False)) (fun _ f=>f.elim)
theorem Yy.row {w W:World} {A:Option Addr} {gs:List ByteArray} {c:Nat} (h:Yy w A gs c W) (g:Nat) (hg:g<w.heap.size+5) (cs:Array Value):Yy w A gs c (W.setRow g cs) :=
 h.turns (S:=fun i=>i=g) ⟨rfl,rfl,rfl,by simp,fun k _ hk=>setRow_other W g k cs hk⟩ (fun j hj=>by omega)

section
variable {w W W':World} {rs qs ys:Array Value} {vs:Option (Array Value)}
theorem Rf6.still (h:Rf6 w rs qs ys vs W) (ht:zb (fun _=>False) W W'):Rf6 w rs qs ys vs W' :=
 have k:∀ {B:Nat} {o:Obj},W.heap[B]? = some o→W'.heap[B]? = some o:=fun hb=>(ht.block _ (Array.getElem?_eq_some_iff.1 hb).1 (fun f=>f)).trans hb
 ⟨k h.r,k h.q,k h.y,k h.z,fun xs e=>k (h.v xs e),h.t.next ht (fun _ _ f=>f)⟩
theorem Rf6.below (h:Rf6 w rs qs ys vs W) (hb:Below W.heap.size W W'):Rf6 w rs qs ys vs W':=h.still (zb.of_below hb _)
theorem Rf6.setR (h:Rf6 w rs qs ys vs W) (cs:Array Value):Rf6 w cs qs ys vs (W.setRow w.heap.size cs) :=
 ⟨setRow_heap W _ _ cs _ _ h.r,(setRow_other W _ _ cs (by omega)).trans h.q,(setRow_other W _ _ cs (by omega)).trans h.y,(setRow_other W _ _ cs (by omega)).trans h.z,fun xs e=>(setRow_other W _ _ cs (by omega)).trans (h.v xs e),h.t.next (S':=fun i=>i=w.heap.size) ⟨rfl,rfl,rfl,by simp,fun k _ hk=>setRow_other W _ k cs hk⟩ (fun i hi he=>by omega)⟩
theorem Rf6.setQ (h:Rf6 w rs qs ys vs W) (cs:Array Value):Rf6 w rs cs ys vs (W.setRow (w.heap.size+1) cs) :=
 ⟨(setRow_other W _ _ cs (by omega)).trans h.r,setRow_heap W _ _ cs _ _ h.q,(setRow_other W _ _ cs (by omega)).trans h.y,(setRow_other W _ _ cs (by omega)).trans h.z,fun xs e=>(setRow_other W _ _ cs (by omega)).trans (h.v xs e),h.t.next (S':=fun i=>i=w.heap.size+1) ⟨rfl,rfl,rfl,by simp,fun k _ hk=>setRow_other W _ k cs hk⟩ (fun i hi he=>by omega)⟩
theorem Rf6.setY (h:Rf6 w rs qs ys vs W) (cs:Array Value):Rf6 w rs qs cs vs (W.setRow (w.heap.size+2) cs) :=
 ⟨(setRow_other W _ _ cs (by omega)).trans h.r,(setRow_other W _ _ cs (by omega)).trans h.q,setRow_heap W _ _ cs _ _ h.y,(setRow_other W _ _ cs (by omega)).trans h.z,fun xs e=>(setRow_other W _ _ cs (by omega)).trans (h.v xs e),h.t.next (S':=fun i=>i=w.heap.size+2) ⟨rfl,rfl,rfl,by simp,fun k _ hk=>setRow_other W _ k cs hk⟩ (fun i hi he=>by omega)⟩
theorem Rf6.read {a b a' b' x:Value} {j:Nat} {xs xs':Array Value} (h:Rf6 w #[a,b] qs ys (some xs) W) (hx:xs.setIfInBounds j x=xs') :
  Rf6 w #[a',b'] qs ys (some xs') (((W.setCell ⟨w.heap.size,0,none⟩ a').setCell ⟨w.heap.size,1,none⟩ b').setCell ⟨w.heap.size+4,j,none⟩ x):=by
 have hr:=h.r
 have hv:=h.v xs rfl
 have o:∀ {B:Nat} {o:Obj},B≠w.heap.size→B≠w.heap.size+4→W.heap[B]? = some o→(((W.setCell ⟨w.heap.size,0,none⟩ a').setCell ⟨w.heap.size,1,none⟩ b').setCell ⟨w.heap.size+4,j,none⟩ x).heap[B]? = some o:=fun h1 h2 hb=>by
  rw [Below.heap_setCell _ _ _ _ h2,Below.heap_setCell _ _ _ _ h1,Below.heap_setCell _ _ _ _ h1]
  exact hb
 refine ⟨?_,o (by omega) (by omega) h.q,o (by omega) (by omega) h.y,o (by omega) (by omega) h.z,fun ys e=>?_,((h.t.setCell (p:=⟨w.heap.size,0,none⟩) (fun hl=>absurd hl (by simp)) _).setCell (p:=⟨w.heap.size,1,none⟩) (fun hl=>absurd hl (by simp)) _).setCell (p:=⟨w.heap.size+4,j,none⟩) (fun hl=>absurd hl (by simp)) _⟩
 ·
  rw [Below.heap_setCell _ _ _ _ (show w.heap.size≠w.heap.size+4 by omega)]
  simp [World.setCell,Array.getElem?_modify,hr]
 ·
  injection e with e
  subst e
  subst hx
  have hv2:((W.setCell ⟨w.heap.size,0,none⟩ a').setCell ⟨w.heap.size,1,none⟩ b').heap[w.heap.size+4]? = some (.cells xs 47 (0,0)):=by
   rw [Below.heap_setCell _ _ _ _ (show w.heap.size+4≠w.heap.size by omega),Below.heap_setCell _ _ _ _ (show w.heap.size+4≠w.heap.size by omega)]
   exact hv
  generalize (W.setCell ⟨w.heap.size,0,none⟩ a').setCell ⟨w.heap.size,1,none⟩ b'=W2 at *
  simp [World.setCell,Array.getElem?_modify,hv2]
theorem Rf6.start (w:World) (a b:Value):Rf6 w #[a,b] #[.string ⟨#[]⟩,.int .i64 0] #[.string ⟨#[]⟩,.string ⟨#[]⟩,.string ⟨#[]⟩,.bool false,.slice none 0 0] none ((((w.alloc (.cells #[a,b] 117)).alloc (.cells #[.string ⟨#[]⟩,.int .i64 0] 117)).alloc (.cells #[.string ⟨#[]⟩,.string ⟨#[]⟩,.string ⟨#[]⟩,.bool false,.slice none 0 0] 47)).alloc (.cells #[.string ⟨#[]⟩,.string ⟨#[]⟩,.string ⟨#[]⟩,.bool false,.slice none 0 0] 47)) :=
 ⟨yl (yl (yl (yZ rfl))),yl (yl (yZ (by simp))),yl (yZ (by simp)),yZ (by simp),(fun _ h=>nomatch h),((((zb.refl _ _).alloc _).alloc _).alloc _).alloc _⟩
theorem Rf6.user (h:Rf6 w rs qs ys none W) (hs:W.heap.size=w.heap.size+4) (xs:Array Value):Rf6 w rs qs ys (some xs) (W.alloc (.cells xs 47)) :=
 ⟨yl h.r,yl h.q,yl h.y,yl h.z,fun ys e=>by injection e with e; subst e; exact yZ hs,h.t.alloc _⟩
theorem zc {B:Nat} {xs:Array Value} {t:TypeId} (h:W.heap[B]? = some (.cells xs t (0,0))) (j:Nat):W.cell? ⟨B,j,none⟩=xs[j]? := cell_of_row W B j _ _ (0,0) h
theorem xB {B:Nat} {xs:Array Value} {t:TypeId} (h:W.heap[B]? = some (.cells xs t (0,0))) (j:Nat):W.frozen? ⟨B,j,none⟩=false:=by simp [World.frozen?,h]
end

def YC6 (s:Int) (ra vv:Value) (ck:Int) (rb:Value):Nat→Value→World→Prop
 | 0,v,_=>v=ra
 | 1,v,_=>v=.int .i64 s
 | 2,v,_=>v=vv
 | 3,v,_=>v=.int .i64 ck
 | 4,v,_=>v=rb
 | _,_,_=>True
theorem qD {s:Int} {ra vv:Value} {ck:Int} {rb:Value} {W W':World} (j:Nat) (z:Value) (h:YC6 s ra vv ck rb j z W):YC6 s ra vv ck rb j z W':=by
 match j,h with
 | 0,h=>exact h
 | 1,h=>exact h
 | 2,h=>exact h
 | 3,h=>exact h
 | 4,h=>exact h
 | _+5,h=>exact h
def GC6 (w:World) (ra rb qs ys:Array Value) (vs:Option (Array Value)) (A:Option Addr) (gs:List ByteArray) (c:Nat) (L:Nat→Bool) (W:World):Prop :=
 Rf6 w (if L 5=true then rb else ra) qs ys vs W∧Yy w A gs c W∧(L 5=true→∀ j,j<5→L j=true)
section
variable {w W W':World} {ra rb qs ys:Array Value} {vs:Option (Array Value)} {A:Option Addr} {gs:List ByteArray} {c:Nat} {L:Nat→Bool}
theorem GC6.no (h:GC6 w ra rb qs ys vs A gs c L W) (i:Nat) (hi:i<5) (hL:L i=false):L 5=false:=by
 cases h5:L 5 with
 | false=>rfl
 | true=>rw [h.2.2 h5 i hi] at hL; cases hL
theorem GC6.ahead (h:GC6 w ra rb qs ys vs A gs c L W) (i:Nat) (hi:i<5) (hL:L i=false):Rf6 w ra qs ys vs W:=by
 have:=h.1
 rw [h.no i hi hL] at this
 exact this
theorem GC6.quiet (h:GC6 w ra rb qs ys vs A gs c L W) (i:Nat) (hi:i<5) (hL:L i=false) (hb:Below W.heap.size W W'):GC6 w ra rb qs ys vs A gs c (yK L i) W':=by
 have h5:yK L i 5=false:=by rw [show yK L i 5=L 5 from if_neg (by omega)]; exact h.no i hi hL
 refine ⟨?_,h.2.1.below hb,fun e=>by rw [h5] at e; cases e⟩
 rw [h5]
 exact (h.ahead i hi hL).below hb
theorem GC6.stored (h:GC6 w ra rb qs ys vs A gs c L W) (hd:∀ j,j<5→L j=true):GC6 w ra rb qs ys vs A gs c (yK L 5) (W.setRow w.heap.size rb):=by
 refine ⟨?_,h.2.1.row _ (by omega) _,fun _ j hj=>by rw [show yK L 5 j=L j from if_neg (by omega)]; exact hd j hj⟩
 rw [show yK L 5 5=true from if_pos rfl,if_pos rfl]
 exact h.1.setR rb
end
def YL6 (ra yv:Value):Nat→Value→World→Prop
 | 0,v,_=>v=ra
 | 1,v,_=>v=yv
 | _,_,_=>True
theorem vZ {ra yv:Value} {W W':World} (j:Nat) (z:Value) (h:YL6 ra yv j z W):YL6 ra yv j z W':=by
 match j,h with
 | 0,h=>exact h
 | 1,h=>exact h
 | _+2,h=>exact h
def GL6 (w:World) (ra q0 q1 y0 y1:Array Value) (vs:Option (Array Value)) (A:Option Addr) (gs:List ByteArray) (c:Nat) (L:Nat→Bool) (W:World):Prop :=
 Rf6 w ra (if L 2=true then q1 else q0) (if L 3=true then y1 else y0) vs W∧Yy w A gs c W
section
variable {w W W':World} {ra q0 q1 y0 y1:Array Value} {vs:Option (Array Value)} {A:Option Addr} {gs:List ByteArray} {c:Nat} {L:Nat→Bool}
theorem GL6.quiet (h:GL6 w ra q0 q1 y0 y1 vs A gs c L W) (i:Nat) (hi:i<2):GL6 w ra q0 q1 y0 y1 vs A gs c (yK L i) W:=by
 unfold GL6
 rw [show yK L i 2=L 2 from if_neg (by omega),show yK L i 3=L 3 from if_neg (by omega)]
 exact h
theorem GL6.storedQ (h:GL6 w ra q0 q1 y0 y1 vs A gs c L W):GL6 w ra q0 q1 y0 y1 vs A gs c (yK L 2) (W.setRow (w.heap.size+1) q1):=by
 unfold GL6
 rw [show yK L 2 2=true from if_pos rfl,if_pos rfl,show yK L 2 3=L 3 from if_neg (by omega)]
 exact ⟨h.1.setQ q1,h.2.row _ (by omega) _⟩
theorem GL6.storedY (h:GL6 w ra q0 q1 y0 y1 vs A gs c L W):GL6 w ra q0 q1 y0 y1 vs A gs c (yK L 3) (W.setRow (w.heap.size+2) y1):=by
 unfold GL6
 rw [show yK L 3 3=true from if_pos rfl,if_pos rfl,show yK L 3 2=L 2 from if_neg (by omega)]
 exact ⟨h.1.setY y1,h.2.row _ (by omega) _⟩
end
theorem yM {p:Prop} [Decidable p] {a b:Array Value} {n:Nat} (ha:a.size=n) (hb:b.size=n):(if p then a else b).size=n:=by
 split <;> assumption

def J6 (w:World) (st:St) (u:Us) (e:Ending) (w':World):Prop:=∃ A c,e=.returned (.tuple #[xS st,(if st.e=0 then ({ u with ga:=A,gc:=c }:Us) else qF).v])∧w'.ownsRow 0 9 1 (.slice A u.gs.length c) u.gs.length (u.gs.map Value.string)∧(∀ j,Value.ownBlock (.slice A u.gs.length c)=some j→w.heap.size≤j)∧zb (fun _=>False) w w'
def RGot61 (w:World) (st:St) (u:Us) (e:Ending) (w':World):Prop:=e=.returned (.tuple #[xS st,(if st.e=0 then u else qF).v])∧zb (fun _=>False) w w'

def YN6 (ra rb yv:Value):Nat→Value→World→Prop
 | 0,v,_=>v=ra
 | 1,v,_=>v=rb
 | 2,v,_=>v=yv
 | _,_,_=>True
theorem qB {ra rb yv:Value} {W W':World} (j:Nat) (z:Value) (h:YN6 ra rb yv j z W):YN6 ra rb yv j z W':=by
 match j,h with
 | 0,h=>exact h
 | 1,h=>exact h
 | 2,h=>exact h
 | _+3,h=>exact h
def GN6 (w:World) (ra q0 q1 y0:Array Value) (L:Nat→Bool) (W:World):Prop:=Rf6 w ra (if L 3=true then q1 else q0) y0 none W
theorem GN6.quiet {w W W':World} {ra q0 q1 y0:Array Value} {L:Nat→Bool} (h:GN6 w ra q0 q1 y0 L W) (i:Nat) (hi:i≠3) (hb:Below W.heap.size W W'):GN6 w ra q0 q1 y0 (yK L i) W':=by
 unfold GN6
 rw [show yK L i 3=L 3 from if_neg (by omega)]
 exact Rf6.below h hb
theorem GN6.storedQ {w W:World} {ra q0 q1 y0:Array Value} {L:Nat→Bool} (h:GN6 w ra q0 q1 y0 L W):GN6 w ra q0 q1 y0 (yK L 3) (W.setRow (w.heap.size+1) q1):=by
 unfold GN6
 rw [show yK L 3 3=true from if_pos rfl,if_pos rfl]
 exact Rf6.setQ h q1
theorem GN6.storedY {w W:World} {ra q0 q1 y0:Array Value} {L:Nat→Bool} (h:GN6 w ra q0 q1 y0 L W):GN6 w ra q0 q1 y0 (yK L 4) (W.setRow (w.heap.size+2) y0):=by
 unfold GN6
 rw [show yK L 4 3=L 3 from if_neg (by omega)]
 exact Rf6.setY h y0

set_option maxRecDepth 100000 in
theorem JT (s:Int) (st:St) (w:World) (hs:vo s=false) :
  Calls Tryz.prog 89 #[xS st,.int .i64 s] w (J6 w (zu st 6) qF):=by
 have HFL:Hid (∀ W,Calls Tryz.prog 182 #[.agg #[.string ⟨st.bs.toArray⟩,.int .i64 st.e],.int .i64 6] W fun e w'=>e=.returned (.agg #[.string ⟨(zu st 6).bs.toArray⟩,.int .i64 (zu st 6).e])∧zb (fun _=>False) W w'):=fun W=>xh st 6 W
 have HG0:=z8 (Rf6.start w (.string ⟨st.bs.toArray⟩) (.int .i64 st.e))
 have hcase:s<1∨(¬ s<1∧2<s):=by
  simp only [vo,Bool.or_eq_false_iff,decide_eq_false_iff_not] at hs
  omega
 generalize zu st 6=s1 at *
 have HP0:Hid (∀ W,zb (fun _=>False) w W→J6 w s1 qF (.returned (.tuple #[.agg #[.string ⟨s1.bs.toArray⟩,.int .i64 s1.e],.agg #[.string ⟨#[]⟩,.string ⟨#[]⟩,.string ⟨#[]⟩,.bool false,.slice none 0 0]])) W):=fun W ht=>by
  refine ⟨none,0,?_,World.ownsRow_nil _ _ _ _,by simp [Value.ownBlock],ht⟩
  have e:(if s1.e=0 then ({ qF with ga:=none,gc:=0 }:Us) else qF)=qF:=by split <;> rfl
  rw [e]
  rfl
 clear hs
 unfold xS
 rcases hcase with hlt | ⟨hlt,hgt⟩
 ·
  have hld:decide (s<1)=true:=decide_eq_true hlt
  go_enter Tryz.func89,Tryz.ntmps89
  go_wp2_with fail
  generalize (((w.alloc (.cells #[.string ⟨st.bs.toArray⟩,.int .i64 st.e] 117)).alloc (.cells #[.string ⟨#[]⟩,.int .i64 0] 117)).alloc (.cells #[.string ⟨#[]⟩,.string ⟨#[]⟩,.string ⟨#[]⟩,.bool false,.slice none 0 0] 47)).alloc (.cells #[.string ⟨#[]⟩,.string ⟨#[]⟩,.string ⟨#[]⟩,.bool false,.slice none 0 0] 47)=W0 at *
  refine zE (by kernel_rfl) (YN6 (.agg #[.string ⟨st.bs.toArray⟩,.int .i64 st.e]) (.agg #[.string ⟨s1.bs.toArray⟩,.int .i64 s1.e]) (.agg #[.string ⟨#[]⟩,.string ⟨#[]⟩,.string ⟨#[]⟩,.bool false,.slice none 0 0])) (GN6 w #[.string ⟨st.bs.toArray⟩,.int .i64 st.e] #[.string ⟨#[]⟩,.int .i64 0] #[.string ⟨s1.bs.toArray⟩,.int .i64 s1.e] #[.string ⟨#[]⟩,.string ⟨#[]⟩,.string ⟨#[]⟩,.bool false,.slice none 0 0]) ?F0 ?hF0 (by kernel_rfl) (by kernel_rfl) (HG0.out.still ((zb.refl _ _).drew)) ?step0 ?fin0
  case hF0 =>
   intro x
   simp only [List.map_cons,List.map_nil,xc,Act.put,List.setIfInBounds_toArray,List.set_cons_zero,List.set_cons_succ,Nat.zero_add,Nat.reduceAdd]
   exact rfl
  case step0 =>
   refine ⟨?_,?_,?_,?_,?_,trivial⟩
   all_goals intro L x W hL hd hG hdep K hK
   ·
    have r0:W.cell? ⟨w.heap.size,0,none⟩=some (.string ⟨st.bs.toArray⟩):=zc hG.r 0
    have r1:W.cell? ⟨w.heap.size,1,none⟩=some (.int .i64 st.e):=zc hG.r 1
    clear hdep
    go_simp
    exact hK _ _ rfl (hG.quiet 0 (by omega) (Below.refl _ _)) (fun _ _ h=>h)
   ·
    have h0:x 0=_:=hdep 0 rfl
    clear hdep
    simp only [h0] at hK
    go_simp
    refine (HFL.out W).mono ?_
    rintro e W' ⟨rfl,ht⟩
    exact hK _ _ rfl (hG.quiet 1 (by omega) (ht.below (fun _ f=>f.elim))) (fun j _ h=>qB j _ h)
   ·
    have k0:W.cell? ⟨w.heap.size+3,0,none⟩=some (.string ⟨#[]⟩):=zc hG.z 0
    have k1:W.cell? ⟨w.heap.size+3,1,none⟩=some (.string ⟨#[]⟩):=zc hG.z 1
    have k2:W.cell? ⟨w.heap.size+3,2,none⟩=some (.string ⟨#[]⟩):=zc hG.z 2
    have k3:W.cell? ⟨w.heap.size+3,3,none⟩=some (.bool false):=zc hG.z 3
    have k4:W.cell? ⟨w.heap.size+3,4,none⟩=some (.slice none 0 0):=zc hG.z 4
    clear hdep
    go_simp
    exact hK _ _ rfl (hG.quiet 2 (by omega) (Below.refl _ _)) (fun _ _ h=>h)
   ·
    have h1:x 1=.agg #[.string ⟨s1.bs.toArray⟩,.int .i64 s1.e]:=hdep 1 rfl
    refine zJ (by rfl) 117 (.tmp 4) (.tmp 16) rfl (w.heap.size+1) rfl _ h1 _ _ hG.q jA (yM rfl rfl) (by simp [Value.oneCell']) ?_
    exact hK _ _ trivial hG.storedQ (fun j _ h=>qB j _ h)
   ·
    have h2:x 2=.agg #[.string ⟨#[]⟩,.string ⟨#[]⟩,.string ⟨#[]⟩,.bool false,.slice none 0 0]:=hdep 2 rfl
    refine zJ (by rfl) 47 (.tmp 5) (.tmp 17) rfl (w.heap.size+2) rfl _ h2 _ _ hG.y YK rfl (by simp [Value.oneCell']) ?_
    exact hK _ _ trivial hG.storedY (fun j _ h=>qB j _ h)
  case fin0 =>
   intro L x W hall hG hY
   have hg:Rf6 w _ _ _ _ W:=hG
   rw [hall 3 (by decide),if_pos rfl] at hg
   have q0:W.cell? ⟨w.heap.size+1,0,none⟩=some (.string ⟨s1.bs.toArray⟩):=zc hg.q 0
   have q1:W.cell? ⟨w.heap.size+1,1,none⟩=some (.int .i64 s1.e):=zc hg.q 1
   have y0:W.cell? ⟨w.heap.size+2,0,none⟩=some (.string ⟨#[]⟩):=zc hg.y 0
   have y1:W.cell? ⟨w.heap.size+2,1,none⟩=some (.string ⟨#[]⟩):=zc hg.y 1
   have y2:W.cell? ⟨w.heap.size+2,2,none⟩=some (.string ⟨#[]⟩):=zc hg.y 2
   have y3:W.cell? ⟨w.heap.size+2,3,none⟩=some (.bool false):=zc hg.y 3
   have y4:W.cell? ⟨w.heap.size+2,4,none⟩=some (.slice none 0 0):=zc hg.y 4
   have hfin:=HP0.out W hg.t
   clear hY hG hg hall
   go_wp2
   refine bodyPost_ret (v:=.tuple #[.agg #[.string ⟨s1.bs.toArray⟩,.int .i64 s1.e],.agg #[.string ⟨#[]⟩,.string ⟨#[]⟩,.string ⟨#[]⟩,.bool false,.slice none 0 0]]) ?_ rfl hfin
   simp [results,Tryz.results89,go_sem,q0,q1,y0,y1,y2,y3,y4]
 ·
  have hld:decide (s<1)=false:=decide_eq_false hlt
  have hgd:decide (s > 2)=true:=decide_eq_true hgt
  go_enter Tryz.func89,Tryz.ntmps89
  go_wp2_with fail
  generalize (((w.alloc (.cells #[.string ⟨st.bs.toArray⟩,.int .i64 st.e] 117)).alloc (.cells #[.string ⟨#[]⟩,.int .i64 0] 117)).alloc (.cells #[.string ⟨#[]⟩,.string ⟨#[]⟩,.string ⟨#[]⟩,.bool false,.slice none 0 0] 47)).alloc (.cells #[.string ⟨#[]⟩,.string ⟨#[]⟩,.string ⟨#[]⟩,.bool false,.slice none 0 0] 47)=W0 at *
  refine zE (by kernel_rfl) (YN6 (.agg #[.string ⟨st.bs.toArray⟩,.int .i64 st.e]) (.agg #[.string ⟨s1.bs.toArray⟩,.int .i64 s1.e]) (.agg #[.string ⟨#[]⟩,.string ⟨#[]⟩,.string ⟨#[]⟩,.bool false,.slice none 0 0])) (GN6 w #[.string ⟨st.bs.toArray⟩,.int .i64 st.e] #[.string ⟨#[]⟩,.int .i64 0] #[.string ⟨s1.bs.toArray⟩,.int .i64 s1.e] #[.string ⟨#[]⟩,.string ⟨#[]⟩,.string ⟨#[]⟩,.bool false,.slice none 0 0]) ?F1 ?hF1 (by kernel_rfl) (by kernel_rfl) (HG0.out.still ((zb.refl _ _).drew)) ?step1 ?fin1
  case hF1 =>
   intro x
   simp only [List.map_cons,List.map_nil,xc,Act.put,List.setIfInBounds_toArray,List.set_cons_zero,List.set_cons_succ,Nat.zero_add,Nat.reduceAdd]
   exact rfl
  case step1 =>
   refine ⟨?_,?_,?_,?_,?_,trivial⟩
   all_goals intro L x W hL hd hG hdep K hK
   ·
    have r0:W.cell? ⟨w.heap.size,0,none⟩=some (.string ⟨st.bs.toArray⟩):=zc hG.r 0
    have r1:W.cell? ⟨w.heap.size,1,none⟩=some (.int .i64 st.e):=zc hG.r 1
    clear hdep
    go_simp
    exact hK _ _ rfl (hG.quiet 0 (by omega) (Below.refl _ _)) (fun _ _ h=>h)
   ·
    have h0:x 0=_:=hdep 0 rfl
    clear hdep
    simp only [h0] at hK
    go_simp
    refine (HFL.out W).mono ?_
    rintro e W' ⟨rfl,ht⟩
    exact hK _ _ rfl (hG.quiet 1 (by omega) (ht.below (fun _ f=>f.elim))) (fun j _ h=>qB j _ h)
   ·
    have k0:W.cell? ⟨w.heap.size+3,0,none⟩=some (.string ⟨#[]⟩):=zc hG.z 0
    have k1:W.cell? ⟨w.heap.size+3,1,none⟩=some (.string ⟨#[]⟩):=zc hG.z 1
    have k2:W.cell? ⟨w.heap.size+3,2,none⟩=some (.string ⟨#[]⟩):=zc hG.z 2
    have k3:W.cell? ⟨w.heap.size+3,3,none⟩=some (.bool false):=zc hG.z 3
    have k4:W.cell? ⟨w.heap.size+3,4,none⟩=some (.slice none 0 0):=zc hG.z 4
    clear hdep
    go_simp
    exact hK _ _ rfl (hG.quiet 2 (by omega) (Below.refl _ _)) (fun _ _ h=>h)
   ·
    have h1:x 1=.agg #[.string ⟨s1.bs.toArray⟩,.int .i64 s1.e]:=hdep 1 rfl
    refine zJ (by rfl) 117 (.tmp 4) (.tmp 16) rfl (w.heap.size+1) rfl _ h1 _ _ hG.q jA (yM rfl rfl) (by simp [Value.oneCell']) ?_
    exact hK _ _ trivial hG.storedQ (fun j _ h=>qB j _ h)
   ·
    have h2:x 2=.agg #[.string ⟨#[]⟩,.string ⟨#[]⟩,.string ⟨#[]⟩,.bool false,.slice none 0 0]:=hdep 2 rfl
    refine zJ (by rfl) 47 (.tmp 5) (.tmp 17) rfl (w.heap.size+2) rfl _ h2 _ _ hG.y YK rfl (by simp [Value.oneCell']) ?_
    exact hK _ _ trivial hG.storedY (fun j _ h=>qB j _ h)
  case fin1 =>
   intro L x W hall hG hY
   have hg:Rf6 w _ _ _ _ W:=hG
   rw [hall 3 (by decide),if_pos rfl] at hg
   have q0:W.cell? ⟨w.heap.size+1,0,none⟩=some (.string ⟨s1.bs.toArray⟩):=zc hg.q 0
   have q1:W.cell? ⟨w.heap.size+1,1,none⟩=some (.int .i64 s1.e):=zc hg.q 1
   have y0:W.cell? ⟨w.heap.size+2,0,none⟩=some (.string ⟨#[]⟩):=zc hg.y 0
   have y1:W.cell? ⟨w.heap.size+2,1,none⟩=some (.string ⟨#[]⟩):=zc hg.y 1
   have y2:W.cell? ⟨w.heap.size+2,2,none⟩=some (.string ⟨#[]⟩):=zc hg.y 2
   have y3:W.cell? ⟨w.heap.size+2,3,none⟩=some (.bool false):=zc hg.y 3
   have y4:W.cell? ⟨w.heap.size+2,4,none⟩=some (.slice none 0 0):=zc hg.y 4
   have hfin:=HP0.out W hg.t
   clear hY hG hg hall
   go_wp2
   refine bodyPost_ret (v:=.tuple #[.agg #[.string ⟨s1.bs.toArray⟩,.int .i64 s1.e],.agg #[.string ⟨#[]⟩,.string ⟨#[]⟩,.string ⟨#[]⟩,.bool false,.slice none 0 0]]) ?_ rfl hfin
   simp [results,Tryz.results89,go_sem,q0,q1,y0,y1,y2,y3,y4]

set_option maxRecDepth 100000 in
theorem YR (st:St) (w:World) (nm hs:List UInt8) (s1 s2 s3:St) (h1:zj st 65535=(s1,nm)) (h2:zj s1 65535=(s2,hs)) (h3:zu s2 (yk 1 (fF nm hs))=s3) (o0:Ok st) (l0:st.bs.length≤1000) (o1:Ok s1) (l1:s1.bs.length≤1000) (hn:nm.length≤1000) (hh:hs.length≤1000) :
  Calls Tryz.prog 89 #[xS st,.int .i64 1] w (RGot61 w s3 (fF nm hs)):=by
 have HT1:Hid (∀ W,Calls Tryz.prog 179 #[.agg #[.string ⟨st.bs.toArray⟩,.int .i64 st.e],.int .i64 65535] W fun e w'=>e=.returned (.tuple #[.agg #[.string ⟨s1.bs.toArray⟩,.int .i64 s1.e],.string (mk6 nm)])∧zb (fun _=>False) W w'):=fun W=>by
  have:=xj st 65535 W o0 (by omega)
  rw [h1] at this
  exact this
 have HT2:Hid (∀ W,Calls Tryz.prog 179 #[.agg #[.string ⟨s1.bs.toArray⟩,.int .i64 s1.e],.int .i64 65535] W fun e w'=>e=.returned (.tuple #[.agg #[.string ⟨s2.bs.toArray⟩,.int .i64 s2.e],.string (mk6 hs)])∧zb (fun _=>False) W w'):=fun W=>by
  have:=xj s1 65535 W o1 (by omega)
  rw [h2] at this
  exact this
 have HCK:Hid (∀ W,Calls Tryz.prog 184 #[.int .i64 1,.agg #[.string (mk6 nm),.string (mk6 hs),.string ⟨#[]⟩,.bool false,.slice none 0 0]] W (yi (yk 1 (fF nm hs)) W)):=fun W=>by
  have z1:(mk6 nm).size≤1000:=by show nm.toArray.size≤_; rw [List.size_toArray]; omega
  have z2:(mk6 hs).size≤1000:=by show hs.toArray.size≤_; rw [List.size_toArray]; omega
  exact vx 1 (fF nm hs) W ⟨fun e=>absurd rfl e,Nat.le_trans z1 (by omega),Nat.le_trans z2 (by omega),Nat.zero_le _,fun _=>rfl,Nat.zero_le _,Nat.zero_le _,fun s hs=>by cases hs⟩ z1 z2 (Nat.zero_le _) (fun g hg=>by cases hg)
 have HFL:Hid (∀ W,Calls Tryz.prog 182 #[.agg #[.string ⟨s2.bs.toArray⟩,.int .i64 s2.e],.int .i64 (yk 1 (fF nm hs))] W fun e w'=>e=.returned (.agg #[.string ⟨s3.bs.toArray⟩,.int .i64 s3.e])∧zb (fun _=>False) W w'):=fun W=>by
  have:=xh s2 (yk 1 (fF nm hs)) W
  rw [h3] at this
  exact this
 have HU:Hid ((fF nm hs).v=.agg #[.string (mk6 nm),.string (mk6 hs),.string ⟨#[]⟩,.bool false,.slice none 0 0]):=rfl
 generalize yk 1 (fF nm hs)=ck at *
 clear h1 h2 h3 o0 l0 o1 l1 hn hh
 obtain ⟨u,hu⟩:∃ u,u=fF nm hs:=⟨_,rfl⟩
 rw [← hu] at HU ⊢
 clear hu
 unfold xS
 unfold mk6 at *
 generalize (⟨nm.toArray⟩:ByteArray)=x1 at *
 generalize (⟨hs.toArray⟩:ByteArray)=x2 at *
 have HG0:=z8 ((Rf6.start w (.string ⟨st.bs.toArray⟩) (.int .i64 st.e)).user (by simp) #[.string ⟨#[]⟩,.string ⟨#[]⟩,.string ⟨#[]⟩,.bool false,.slice none 0 0])
 have r0:_=some (.string ⟨st.bs.toArray⟩:Value):=zc HG0.out.r 0
 have r1:_=some (.int .i64 st.e:Value):=zc HG0.out.r 1
 go_enter Tryz.func89,Tryz.ntmps89
 go_wp2_with fail
 generalize ((((w.alloc (.cells #[.string ⟨st.bs.toArray⟩,.int .i64 st.e] 117)).alloc (.cells #[.string ⟨#[]⟩,.int .i64 0] 117)).alloc (.cells #[.string ⟨#[]⟩,.string ⟨#[]⟩,.string ⟨#[]⟩,.bool false,.slice none 0 0] 47)).alloc (.cells #[.string ⟨#[]⟩,.string ⟨#[]⟩,.string ⟨#[]⟩,.bool false,.slice none 0 0] 47)).alloc (.cells #[.string ⟨#[]⟩,.string ⟨#[]⟩,.string ⟨#[]⟩,.bool false,.slice none 0 0] 47)=W0 at *
 with_reducible refine (HT1.out W0).mono ?_
 rintro e w1 ⟨rfl,ht⟩
 have hg:=HG0.out.still ht
 clear r0 r1
 have p0:_=some (.string ⟨st.bs.toArray⟩:Value):=zc hg.r 0
 have p1:_=some (.int .i64 st.e:Value):=zc hg.r 1
 have pf:=xB hg.r
 have kk:_=some (.string ⟨#[]⟩:Value):=zc (hg.v _ rfl) 0
 have kf:=xB (hg.v _ rfl)
 have hg2:=hg.read (a':=.string ⟨s1.bs.toArray⟩) (b':=.int .i64 s1.e) (j:=0) (x:=.string x1) (xs':=#[.string x1,.string ⟨#[]⟩,.string ⟨#[]⟩,.bool false,.slice none 0 0]) rfl
 have HG1:=z8 hg2
 have r0:_=some (.string ⟨s1.bs.toArray⟩:Value):=zc hg2.r 0
 have r1:_=some (.int .i64 s1.e:Value):=zc hg2.r 1
 clear hg hg2 ht HG0 HT1
 go_wp2_with fail
 generalize ((w1.setCell ⟨w.heap.size,0,none⟩ (.string ⟨s1.bs.toArray⟩)).setCell ⟨w.heap.size,1,none⟩ (.int .i64 s1.e)).setCell ⟨w.heap.size+4,0,none⟩ (.string x1)=W1 at *
 clear p0 p1 pf kk kf
 with_reducible refine (HT2.out W1).mono ?_
 rintro e w2 ⟨rfl,ht⟩
 have hg:=HG1.out.still ht
 clear r0 r1
 have p0:_=some (.string ⟨s1.bs.toArray⟩:Value):=zc hg.r 0
 have p1:_=some (.int .i64 s1.e:Value):=zc hg.r 1
 have pf:=xB hg.r
 have kk:_=some (.string ⟨#[]⟩:Value):=zc (hg.v _ rfl) 1
 have kf:=xB (hg.v _ rfl)
 have hg2:=hg.read (a':=.string ⟨s2.bs.toArray⟩) (b':=.int .i64 s2.e) (j:=1) (x:=.string x2) (xs':=#[.string x1,.string x2,.string ⟨#[]⟩,.bool false,.slice none 0 0]) rfl
 have HG2:=z8 hg2
 have r0:_=some (.string ⟨s2.bs.toArray⟩:Value):=zc hg2.r 0
 have r1:_=some (.int .i64 s2.e:Value):=zc hg2.r 1
 clear hg hg2 ht HG1 HT2
 go_wp2_with fail
 generalize ((w2.setCell ⟨w.heap.size,0,none⟩ (.string ⟨s2.bs.toArray⟩)).setCell ⟨w.heap.size,1,none⟩ (.int .i64 s2.e)).setCell ⟨w.heap.size+4,1,none⟩ (.string x2)=W2 at *
 clear p0 p1 pf kk kf
 clear r0 r1
 refine zE (by kernel_rfl) (YC6 1 (.agg #[.string ⟨s2.bs.toArray⟩,.int .i64 s2.e]) (.agg #[.string x1,.string x2,.string ⟨#[]⟩,.bool false,.slice none 0 0]) ck (.agg #[.string ⟨s3.bs.toArray⟩,.int .i64 s3.e])) (GC6 w #[.string ⟨s2.bs.toArray⟩,.int .i64 s2.e] #[.string ⟨s3.bs.toArray⟩,.int .i64 s3.e] #[.string ⟨#[]⟩,.int .i64 0] #[.string ⟨#[]⟩,.string ⟨#[]⟩,.string ⟨#[]⟩,.bool false,.slice none 0 0] (some #[.string x1,.string x2,.string ⟨#[]⟩,.bool false,.slice none 0 0]) none [] 0) ?F ?hF (by kernel_rfl) (by kernel_rfl) ⟨HG2.out.still ((zb.refl _ _).drew),(Yy.none w W2).below (zy (Below.refl _ _)),fun h=>by cases h⟩ ?step ?fin
 case hF =>
  intro x
  simp only [List.map_cons,List.map_nil,xc,Act.put,List.setIfInBounds_toArray,List.set_cons_zero,List.set_cons_succ,Nat.zero_add,Nat.reduceAdd]
  exact rfl
 case step =>
  refine ⟨?_,?_,?_,?_,?_,?_,trivial⟩
  all_goals intro L x W hL hd hG hdep K hK
  ·
   have hg:=hG.ahead 0 (by omega) hL
   have r0:W.cell? ⟨w.heap.size,0,none⟩=some (.string ⟨s2.bs.toArray⟩):=zc hg.r 0
   have r1:W.cell? ⟨w.heap.size,1,none⟩=some (.int .i64 s2.e):=zc hg.r 1
   clear hdep hg
   go_simp
   exact hK _ _ rfl (hG.quiet 0 (by omega) hL (Below.refl _ _)) (fun _ _ h=>h)
  ·
   clear hdep
   go_simp
   exact hK _ _ rfl (hG.quiet 1 (by omega) hL (Below.refl _ _)) (fun _ _ h=>h)
  ·
   have hg:=hG.ahead 2 (by omega) hL
   have k0:W.cell? ⟨w.heap.size+4,0,none⟩=some (.string x1):=zc (hg.v _ rfl) 0
   have k1:W.cell? ⟨w.heap.size+4,1,none⟩=some (.string x2):=zc (hg.v _ rfl) 1
   have k2:W.cell? ⟨w.heap.size+4,2,none⟩=some (.string ⟨#[]⟩):=zc (hg.v _ rfl) 2
   have k3:W.cell? ⟨w.heap.size+4,3,none⟩=some (.bool false):=zc (hg.v _ rfl) 3
   have k4:W.cell? ⟨w.heap.size+4,4,none⟩=some (.slice none 0 0):=zc (hg.v _ rfl) 4
   clear hdep hg
   go_simp
   exact hK _ _ rfl (hG.quiet 2 (by omega) hL (Below.refl _ _)) (fun _ _ h=>h)
  ·
   have h1:x 1=_:=hdep 1 rfl
   have h2:x 2=_:=hdep 2 rfl
   clear hdep
   simp only [h1,h2] at hK
   go_simp
   refine (HCK.out W).mono ?_
   rintro e W' ⟨rfl,hb⟩
   exact hK _ _ rfl (hG.quiet 3 (by omega) hL hb) (fun j _ h=>qD j _ h)
  ·
   have h0:x 0=_:=hdep 0 rfl
   have h3:x 3=_:=hdep 3 rfl
   clear hdep
   simp only [h0,h3] at hK
   go_simp
   refine (HFL.out W).mono ?_
   rintro e W' ⟨rfl,ht⟩
   exact hK _ _ rfl (hG.quiet 4 (by omega) hL (ht.below (fun _ f=>f.elim))) (fun j _ h=>qD j _ h)
  ·
   have h4:x 4=.agg #[.string ⟨s3.bs.toArray⟩,.int .i64 s3.e]:=hdep 4 rfl
   have hd0:∀ j,j<5→L j=true:=fun j hj=>hd j (by rcases j with _ | _ | _ | _ | _ | j <;> first | rfl | omega)
   refine zJ (by rfl) 117 (.tmp 2) (.tmp 55) rfl w.heap.size rfl _ h4 _ _ hG.1.r jA (yM rfl rfl) (by simp [Value.oneCell']) ?_
   exact hK _ _ trivial (hG.stored hd0) (fun j _ h=>qD j _ h)
 case fin =>
  intro L x W8 hall hG hY
  have hg:=hG.1
  rw [hall 5 (by decide),if_pos rfl] at hg
  have HG8:=z8 hg
  have HO8:=z8 hG.2.1
  have r1:_=some (.int .i64 s3.e:Value):=zc hg.r 1
  clear hY hG hg hall HCK HFL HG2
  by_cases h0:s3.e=0
  ·
   have h0d:(s3.e != 0)=false:=by simpa using h0
   have HP1:Hid (∀ W,Yy w none [] 0 W→zb (fun _=>False) w W→RGot61 w s3 u (.returned (.tuple #[.agg #[.string ⟨s3.bs.toArray⟩,.int .i64 s3.e],.agg #[.string x1,.string x2,.string ⟨#[]⟩,.bool false,.slice none 0 0]])) W):=fun W ho ht=>by
    exact ⟨by rw [if_pos h0,HU.out]; rfl,ht⟩
   clear HU
   go_wp2_with fail
   clear r1 h0 h0d
   refine zE (by kernel_rfl) (YL6 (.agg #[.string ⟨s3.bs.toArray⟩,.int .i64 s3.e]) (.agg #[.string x1,.string x2,.string ⟨#[]⟩,.bool false,.slice none 0 0])) (GL6 w #[.string ⟨s3.bs.toArray⟩,.int .i64 s3.e] #[.string ⟨#[]⟩,.int .i64 0] #[.string ⟨s3.bs.toArray⟩,.int .i64 s3.e] #[.string ⟨#[]⟩,.string ⟨#[]⟩,.string ⟨#[]⟩,.bool false,.slice none 0 0] #[.string x1,.string x2,.string ⟨#[]⟩,.bool false,.slice none 0 0] (some #[.string x1,.string x2,.string ⟨#[]⟩,.bool false,.slice none 0 0]) none [] 0) ?F1 ?hF1 (by kernel_rfl) (by kernel_rfl) ⟨HG8.out.still ((zb.refl _ _).drew),HO8.out.below (zy (Below.refl _ _))⟩ ?step1 ?fin1
   case hF1 =>
    intro x
    simp only [List.map_cons,List.map_nil,xc,Act.put,List.setIfInBounds_toArray,List.set_cons_zero,List.set_cons_succ,Nat.zero_add]
    exact rfl
   case step1 =>
    refine ⟨?_,?_,?_,?_,trivial⟩
    all_goals intro L x W hL hd hG hdep K hK
    ·
     have hg:=hG.1
     have r0:W.cell? ⟨w.heap.size,0,none⟩=some (.string ⟨s3.bs.toArray⟩):=zc hg.r 0
     have r1:W.cell? ⟨w.heap.size,1,none⟩=some (.int .i64 s3.e):=zc hg.r 1
     clear hdep hg
     go_simp
     exact hK _ _ rfl (hG.quiet 0 (by omega)) (fun _ _ h=>h)
    ·
     have hg:=hG.1
     have k0:W.cell? ⟨w.heap.size+4,0,none⟩=some (.string x1):=zc (hg.v _ rfl) 0
     have k1:W.cell? ⟨w.heap.size+4,1,none⟩=some (.string x2):=zc (hg.v _ rfl) 1
     have k2:W.cell? ⟨w.heap.size+4,2,none⟩=some (.string ⟨#[]⟩):=zc (hg.v _ rfl) 2
     have k3:W.cell? ⟨w.heap.size+4,3,none⟩=some (.bool false):=zc (hg.v _ rfl) 3
     have k4:W.cell? ⟨w.heap.size+4,4,none⟩=some (.slice none 0 0):=zc (hg.v _ rfl) 4
     clear hdep hg
     go_simp
     exact hK _ _ rfl (hG.quiet 1 (by omega)) (fun _ _ h=>h)
    ·
     have h0:x 0=.agg #[.string ⟨s3.bs.toArray⟩,.int .i64 s3.e]:=hdep 0 rfl
     refine zJ (by rfl) 117 (.tmp 4) (.tmp 61) rfl (w.heap.size+1) rfl _ h0 _ _ hG.1.q jA (yM rfl rfl) (by simp [Value.oneCell']) ?_
     exact hK _ _ trivial hG.storedQ (fun j _ h=>vZ j _ h)
    ·
     have h1:x 1=.agg #[.string x1,.string x2,.string ⟨#[]⟩,.bool false,.slice none 0 0]:=hdep 1 rfl
     refine zJ (by rfl) 47 (.tmp 5) (.tmp 62) rfl (w.heap.size+2) rfl _ h1 _ _ hG.1.y YK (yM rfl rfl) (by simp [Value.oneCell']) ?_
     exact hK _ _ trivial hG.storedY (fun j _ h=>vZ j _ h)
   case fin1 =>
    intro L x W hall hG hY
    have hg:=hG.1
    rw [hall 2 (by decide),hall 3 (by decide),if_pos rfl,if_pos rfl] at hg
    have q0:W.cell? ⟨w.heap.size+1,0,none⟩=some (.string ⟨s3.bs.toArray⟩):=zc hg.q 0
    have q1:W.cell? ⟨w.heap.size+1,1,none⟩=some (.int .i64 s3.e):=zc hg.q 1
    have y0:W.cell? ⟨w.heap.size+2,0,none⟩=some (.string x1):=zc hg.y 0
    have y1:W.cell? ⟨w.heap.size+2,1,none⟩=some (.string x2):=zc hg.y 1
    have y2:W.cell? ⟨w.heap.size+2,2,none⟩=some (.string ⟨#[]⟩):=zc hg.y 2
    have y3:W.cell? ⟨w.heap.size+2,3,none⟩=some (.bool false):=zc hg.y 3
    have y4:W.cell? ⟨w.heap.size+2,4,none⟩=some (.slice none 0 0):=zc hg.y 4
    have hfin:=HP1.out W hG.2 hg.t
    clear hY hG hg hall
    go_wp2
    refine bodyPost_ret (v:=.tuple #[.agg #[.string ⟨s3.bs.toArray⟩,.int .i64 s3.e],.agg #[.string x1,.string x2,.string ⟨#[]⟩,.bool false,.slice none 0 0]]) ?_ rfl hfin
    simp [results,Tryz.results89,go_sem,q0,q1,y0,y1,y2,y3,y4]
  ·
   have h0d:(s3.e != 0)=true:=by simpa using h0
   have HP2:Hid (∀ W,Yy w none [] 0 W→zb (fun _=>False) w W→RGot61 w s3 u (.returned (.tuple #[.agg #[.string ⟨s3.bs.toArray⟩,.int .i64 s3.e],.agg #[.string ⟨#[]⟩,.string ⟨#[]⟩,.string ⟨#[]⟩,.bool false,.slice none 0 0]])) W):=fun W ho ht=>by
    exact ⟨by rw [if_neg h0]; rfl,ht⟩
   clear HU
   go_wp2_with fail
   clear r1 h0 h0d
   refine zE (by kernel_rfl) (YL6 (.agg #[.string ⟨s3.bs.toArray⟩,.int .i64 s3.e]) (.agg #[.string ⟨#[]⟩,.string ⟨#[]⟩,.string ⟨#[]⟩,.bool false,.slice none 0 0])) (GL6 w #[.string ⟨s3.bs.toArray⟩,.int .i64 s3.e] #[.string ⟨#[]⟩,.int .i64 0] #[.string ⟨s3.bs.toArray⟩,.int .i64 s3.e] #[.string ⟨#[]⟩,.string ⟨#[]⟩,.string ⟨#[]⟩,.bool false,.slice none 0 0] #[.string ⟨#[]⟩,.string ⟨#[]⟩,.string ⟨#[]⟩,.bool false,.slice none 0 0] (some #[.string x1,.string x2,.string ⟨#[]⟩,.bool false,.slice none 0 0]) none [] 0) ?F2 ?hF2 (by kernel_rfl) (by kernel_rfl) ⟨HG8.out.still ((zb.refl _ _).drew),HO8.out.below (zy (Below.refl _ _))⟩ ?step2 ?Uz
   case hF2 =>
    intro x
    simp only [List.map_cons,List.map_nil,xc,Act.put,List.setIfInBounds_toArray,List.set_cons_zero,List.set_cons_succ,Nat.zero_add]
    exact rfl
   case step2 =>
    refine ⟨?_,?_,?_,?_,trivial⟩
    all_goals intro L x W hL hd hG hdep K hK
    ·
     have hg:=hG.1
     have r0:W.cell? ⟨w.heap.size,0,none⟩=some (.string ⟨s3.bs.toArray⟩):=zc hg.r 0
     have r1:W.cell? ⟨w.heap.size,1,none⟩=some (.int .i64 s3.e):=zc hg.r 1
     clear hdep hg
     go_simp
     exact hK _ _ rfl (hG.quiet 0 (by omega)) (fun _ _ h=>h)
    ·
     have hg:=hG.1
     have k0:W.cell? ⟨w.heap.size+3,0,none⟩=some (.string ⟨#[]⟩):=zc hg.z 0
     have k1:W.cell? ⟨w.heap.size+3,1,none⟩=some (.string ⟨#[]⟩):=zc hg.z 1
     have k2:W.cell? ⟨w.heap.size+3,2,none⟩=some (.string ⟨#[]⟩):=zc hg.z 2
     have k3:W.cell? ⟨w.heap.size+3,3,none⟩=some (.bool false):=zc hg.z 3
     have k4:W.cell? ⟨w.heap.size+3,4,none⟩=some (.slice none 0 0):=zc hg.z 4
     clear hdep hg
     go_simp
     exact hK _ _ rfl (hG.quiet 1 (by omega)) (fun _ _ h=>h)
    ·
     have h0:x 0=.agg #[.string ⟨s3.bs.toArray⟩,.int .i64 s3.e]:=hdep 0 rfl
     refine zJ (by rfl) 117 (.tmp 4) (.tmp 59) rfl (w.heap.size+1) rfl _ h0 _ _ hG.1.q jA (yM rfl rfl) (by simp [Value.oneCell']) ?_
     exact hK _ _ trivial hG.storedQ (fun j _ h=>vZ j _ h)
    ·
     have h1:x 1=.agg #[.string ⟨#[]⟩,.string ⟨#[]⟩,.string ⟨#[]⟩,.bool false,.slice none 0 0]:=hdep 1 rfl
     refine zJ (by rfl) 47 (.tmp 5) (.tmp 60) rfl (w.heap.size+2) rfl _ h1 _ _ hG.1.y YK (yM rfl rfl) (by simp [Value.oneCell']) ?_
     exact hK _ _ trivial hG.storedY (fun j _ h=>vZ j _ h)
   case Uz =>
    intro L x W hall hG hY
    have hg:=hG.1
    rw [hall 2 (by decide),hall 3 (by decide),if_pos rfl,if_pos rfl] at hg
    have q0:W.cell? ⟨w.heap.size+1,0,none⟩=some (.string ⟨s3.bs.toArray⟩):=zc hg.q 0
    have q1:W.cell? ⟨w.heap.size+1,1,none⟩=some (.int .i64 s3.e):=zc hg.q 1
    have y0:W.cell? ⟨w.heap.size+2,0,none⟩=some (.string ⟨#[]⟩):=zc hg.y 0
    have y1:W.cell? ⟨w.heap.size+2,1,none⟩=some (.string ⟨#[]⟩):=zc hg.y 1
    have y2:W.cell? ⟨w.heap.size+2,2,none⟩=some (.string ⟨#[]⟩):=zc hg.y 2
    have y3:W.cell? ⟨w.heap.size+2,3,none⟩=some (.bool false):=zc hg.y 3
    have y4:W.cell? ⟨w.heap.size+2,4,none⟩=some (.slice none 0 0):=zc hg.y 4
    have hfin:=HP2.out W hG.2 hg.t
    clear hY hG hg hall
    go_wp2
    refine bodyPost_ret (v:=.tuple #[.agg #[.string ⟨s3.bs.toArray⟩,.int .i64 s3.e],.agg #[.string ⟨#[]⟩,.string ⟨#[]⟩,.string ⟨#[]⟩,.bool false,.slice none 0 0]]) ?_ rfl hfin
    simp [results,Tryz.results89,go_sem,q0,q1,y0,y1,y2,y3,y4]
theorem rget6_one (st:St) (w:World) (nm hs:List UInt8) (s1 s2 s3:St) (h1:zj st 65535=(s1,nm)) (h2:zj s1 65535=(s2,hs)) (h3:zu s2 (yk 1 (fF nm hs))=s3) (o0:Ok st) (l0:st.bs.length≤1000) (o1:Ok s1) (l1:s1.bs.length≤1000) (hn:nm.length≤1000) (hh:hs.length≤1000) :
  Calls Tryz.prog 89 #[xS st,.int .i64 1] w (J6 w s3 (fF nm hs)) :=
 (YR st w nm hs s1 s2 s3 h1 h2 h3 o0 l0 o1 l1 hn hh).mono fun e w' ⟨he,ht⟩=>⟨none,0,he,World.ownsRow_nil _ _ _ _,by simp [Value.ownBlock],ht⟩

set_option maxRecDepth 100000 in
theorem rget6_two (st:St) (w:World) (nm hs ml:List UInt8) (dis:Bool) (gs:List ByteArray) (s1 s2 s3 s4 s5 s6:St) (h1:zj st 65535=(s1,nm)) (h2:zj s1 65535=(s2,hs)) (h3:zj s2 65535=(s3,ml)) (h4:yj s3=(s4,dis)) (h5:xI s4 65535 65535=(s5,gs)) (h6:zu s5 (yk 2 (fz nm hs ml dis gs))=s6) (o0:Ok st) (l0:st.bs.length≤1000) (o1:Ok s1) (l1:s1.bs.length≤1000) (o2:Ok s2) (l2:s2.bs.length≤1000) (o3:Ok s3) (l3:s3.bs.length≤1000) (o4:Ok s4) (l4:s4.bs.length≤1000) (hn:nm.length≤1000) (hh:hs.length≤1000) (hml:ml.length≤1000) (hgs:∀ s∈gs,s.size≤1000) :
  Calls Tryz.prog 89 #[xS st,.int .i64 2] w (J6 w s6 (fz nm hs ml dis gs)):=by
 have HT1:Hid (∀ W,Calls Tryz.prog 179 #[.agg #[.string ⟨st.bs.toArray⟩,.int .i64 st.e],.int .i64 65535] W fun e w'=>e=.returned (.tuple #[.agg #[.string ⟨s1.bs.toArray⟩,.int .i64 s1.e],.string (mk6 nm)])∧zb (fun _=>False) W w'):=fun W=>by
  have:=xj st 65535 W o0 (by omega)
  rw [h1] at this
  exact this
 have HT2:Hid (∀ W,Calls Tryz.prog 179 #[.agg #[.string ⟨s1.bs.toArray⟩,.int .i64 s1.e],.int .i64 65535] W fun e w'=>e=.returned (.tuple #[.agg #[.string ⟨s2.bs.toArray⟩,.int .i64 s2.e],.string (mk6 hs)])∧zb (fun _=>False) W w'):=fun W=>by
  have:=xj s1 65535 W o1 (by omega)
  rw [h2] at this
  exact this
 have HT3:Hid (∀ W,Calls Tryz.prog 179 #[.agg #[.string ⟨s2.bs.toArray⟩,.int .i64 s2.e],.int .i64 65535] W fun e w'=>e=.returned (.tuple #[.agg #[.string ⟨s3.bs.toArray⟩,.int .i64 s3.e],.string (mk6 ml)])∧zb (fun _=>False) W w'):=fun W=>by
  have:=xj s2 65535 W o2 (by omega)
  rw [h3] at this
  exact this
 have HT4:Hid (∀ W,Calls Tryz.prog 183 #[.agg #[.string ⟨s3.bs.toArray⟩,.int .i64 s3.e]] W fun e w'=>e=.returned (.tuple #[.agg #[.string ⟨s4.bs.toArray⟩,.int .i64 s4.e],.bool dis])∧zb (fun _=>False) W w'):=fun W=>by
  have:=Ys s3 W o3 (by omega)
  rw [h4] at this
  exact this
 have HT5:Hid (∀ W,Calls Tryz.prog 87 #[.agg #[.string ⟨s4.bs.toArray⟩,.int .i64 s4.e],.int .i64 65535,.int .i64 65535] W (RefW6 s5 gs W)):=fun W=>by
  have:=jP s4 65535 65535 W o4 (by omega)
  rw [h5] at this
  exact this
 have HCK:Hid (∀ W A c,Yy w A gs c W→Calls Tryz.prog 184 #[.int .i64 2,.agg #[.string (mk6 nm),.string (mk6 hs),.string (mk6 ml),.bool dis,.slice A gs.length c]] W (yi (yk 2 (fz nm hs ml dis gs)) W)):=fun W A c ho=>by
  obtain ⟨f1,f2,f3,f4⟩:=xW ho.1 rfl
  have z1:(mk6 nm).size≤1000:=by show nm.toArray.size≤_; rw [List.size_toArray]; omega
  have z2:(mk6 hs).size≤1000:=by show hs.toArray.size≤_; rw [List.size_toArray]; omega
  have z3:(mk6 ml).size≤1000:=by show ml.toArray.size≤_; rw [List.size_toArray]; omega
  exact vx 2 ⟨mk6 nm,mk6 hs,mk6 ml,dis,A,gs,c⟩ W ⟨f1,Nat.le_trans z1 (by omega),Nat.le_trans z2 (by omega),Nat.le_trans z3 (by omega),f2,f3,f4,fun s hs=>Nat.le_trans (hgs s hs) (by omega)⟩ z1 z2 z3 hgs
 have HFL:Hid (∀ W,Calls Tryz.prog 182 #[.agg #[.string ⟨s5.bs.toArray⟩,.int .i64 s5.e],.int .i64 (yk 2 (fz nm hs ml dis gs))] W fun e w'=>e=.returned (.agg #[.string ⟨s6.bs.toArray⟩,.int .i64 s6.e])∧zb (fun _=>False) W w'):=fun W=>by
  have:=xh s5 (yk 2 (fz nm hs ml dis gs)) W
  rw [h6] at this
  exact this
 have HU:Hid (∀ A c,({ fz nm hs ml dis gs with ga:=A,gc:=c }:Us).v=.agg #[.string (mk6 nm),.string (mk6 hs),.string (mk6 ml),.bool dis,.slice A (fz nm hs ml dis gs).gs.length c]):=fun _ _=>rfl
 have HGS:Hid ((fz nm hs ml dis gs).gs=gs):=rfl
 generalize yk 2 (fz nm hs ml dis gs)=ck at *
 clear h1 h2 h3 h4 h5 h6 o0 l0 o1 l1 o2 l2 o3 l3 o4 l4 hn hh hml hgs
 obtain ⟨u,hu⟩:∃ u,u=fz nm hs ml dis gs:=⟨_,rfl⟩
 rw [← hu] at HU HGS ⊢
 clear hu
 unfold xS
 unfold mk6 at *
 generalize (⟨nm.toArray⟩:ByteArray)=x1 at *
 generalize (⟨hs.toArray⟩:ByteArray)=x2 at *
 generalize (⟨ml.toArray⟩:ByteArray)=x3 at *
 have HG0:=z8 ((Rf6.start w (.string ⟨st.bs.toArray⟩) (.int .i64 st.e)).user (by simp) #[.string ⟨#[]⟩,.string ⟨#[]⟩,.string ⟨#[]⟩,.bool false,.slice none 0 0])
 have r0:_=some (.string ⟨st.bs.toArray⟩:Value):=zc HG0.out.r 0
 have r1:_=some (.int .i64 st.e:Value):=zc HG0.out.r 1
 go_enter Tryz.func89,Tryz.ntmps89
 go_wp2_with fail
 generalize ((((w.alloc (.cells #[.string ⟨st.bs.toArray⟩,.int .i64 st.e] 117)).alloc (.cells #[.string ⟨#[]⟩,.int .i64 0] 117)).alloc (.cells #[.string ⟨#[]⟩,.string ⟨#[]⟩,.string ⟨#[]⟩,.bool false,.slice none 0 0] 47)).alloc (.cells #[.string ⟨#[]⟩,.string ⟨#[]⟩,.string ⟨#[]⟩,.bool false,.slice none 0 0] 47)).alloc (.cells #[.string ⟨#[]⟩,.string ⟨#[]⟩,.string ⟨#[]⟩,.bool false,.slice none 0 0] 47)=W0 at *
 with_reducible refine (HT1.out W0).mono ?_
 rintro e w1 ⟨rfl,ht⟩
 have hg:=HG0.out.still ht
 clear r0 r1
 have p0:_=some (.string ⟨st.bs.toArray⟩:Value):=zc hg.r 0
 have p1:_=some (.int .i64 st.e:Value):=zc hg.r 1
 have pf:=xB hg.r
 have kk:_=some (.string ⟨#[]⟩:Value):=zc (hg.v _ rfl) 0
 have kf:=xB (hg.v _ rfl)
 have hg2:=hg.read (a':=.string ⟨s1.bs.toArray⟩) (b':=.int .i64 s1.e) (j:=0) (x:=.string x1) (xs':=#[.string x1,.string ⟨#[]⟩,.string ⟨#[]⟩,.bool false,.slice none 0 0]) rfl
 have HG1:=z8 hg2
 have r0:_=some (.string ⟨s1.bs.toArray⟩:Value):=zc hg2.r 0
 have r1:_=some (.int .i64 s1.e:Value):=zc hg2.r 1
 clear hg hg2 ht HG0 HT1
 go_wp2_with fail
 generalize ((w1.setCell ⟨w.heap.size,0,none⟩ (.string ⟨s1.bs.toArray⟩)).setCell ⟨w.heap.size,1,none⟩ (.int .i64 s1.e)).setCell ⟨w.heap.size+4,0,none⟩ (.string x1)=W1 at *
 clear p0 p1 pf kk kf
 with_reducible refine (HT2.out W1).mono ?_
 rintro e w2 ⟨rfl,ht⟩
 have hg:=HG1.out.still ht
 clear r0 r1
 have p0:_=some (.string ⟨s1.bs.toArray⟩:Value):=zc hg.r 0
 have p1:_=some (.int .i64 s1.e:Value):=zc hg.r 1
 have pf:=xB hg.r
 have kk:_=some (.string ⟨#[]⟩:Value):=zc (hg.v _ rfl) 1
 have kf:=xB (hg.v _ rfl)
 have hg2:=hg.read (a':=.string ⟨s2.bs.toArray⟩) (b':=.int .i64 s2.e) (j:=1) (x:=.string x2) (xs':=#[.string x1,.string x2,.string ⟨#[]⟩,.bool false,.slice none 0 0]) rfl
 have HG2:=z8 hg2
 have r0:_=some (.string ⟨s2.bs.toArray⟩:Value):=zc hg2.r 0
 have r1:_=some (.int .i64 s2.e:Value):=zc hg2.r 1
 clear hg hg2 ht HG1 HT2
 go_wp2_with fail
 generalize ((w2.setCell ⟨w.heap.size,0,none⟩ (.string ⟨s2.bs.toArray⟩)).setCell ⟨w.heap.size,1,none⟩ (.int .i64 s2.e)).setCell ⟨w.heap.size+4,1,none⟩ (.string x2)=W2 at *
 clear p0 p1 pf kk kf
 with_reducible refine (HT3.out W2).mono ?_
 rintro e w3 ⟨rfl,ht⟩
 have hg:=HG2.out.still ht
 clear r0 r1
 have p0:_=some (.string ⟨s2.bs.toArray⟩:Value):=zc hg.r 0
 have p1:_=some (.int .i64 s2.e:Value):=zc hg.r 1
 have pf:=xB hg.r
 have kk:_=some (.string ⟨#[]⟩:Value):=zc (hg.v _ rfl) 2
 have kf:=xB (hg.v _ rfl)
 have hg2:=hg.read (a':=.string ⟨s3.bs.toArray⟩) (b':=.int .i64 s3.e) (j:=2) (x:=.string x3) (xs':=#[.string x1,.string x2,.string x3,.bool false,.slice none 0 0]) rfl
 have HG3:=z8 hg2
 have r0:_=some (.string ⟨s3.bs.toArray⟩:Value):=zc hg2.r 0
 have r1:_=some (.int .i64 s3.e:Value):=zc hg2.r 1
 clear hg hg2 ht HG2 HT3
 go_wp2_with fail
 generalize ((w3.setCell ⟨w.heap.size,0,none⟩ (.string ⟨s3.bs.toArray⟩)).setCell ⟨w.heap.size,1,none⟩ (.int .i64 s3.e)).setCell ⟨w.heap.size+4,2,none⟩ (.string x3)=W3 at *
 clear p0 p1 pf kk kf
 with_reducible refine (HT4.out W3).mono ?_
 rintro e w4 ⟨rfl,ht⟩
 have hg:=HG3.out.still ht
 clear r0 r1
 have p0:_=some (.string ⟨s3.bs.toArray⟩:Value):=zc hg.r 0
 have p1:_=some (.int .i64 s3.e:Value):=zc hg.r 1
 have pf:=xB hg.r
 have kk:_=some (.bool false:Value):=zc (hg.v _ rfl) 3
 have kf:=xB (hg.v _ rfl)
 have hg2:=hg.read (a':=.string ⟨s4.bs.toArray⟩) (b':=.int .i64 s4.e) (j:=3) (x:=.bool dis) (xs':=#[.string x1,.string x2,.string x3,.bool dis,.slice none 0 0]) rfl
 have HG4:=z8 hg2
 have r0:_=some (.string ⟨s4.bs.toArray⟩:Value):=zc hg2.r 0
 have r1:_=some (.int .i64 s4.e:Value):=zc hg2.r 1
 clear hg hg2 ht HG3 HT4
 go_wp2_with fail
 generalize ((w4.setCell ⟨w.heap.size,0,none⟩ (.string ⟨s4.bs.toArray⟩)).setCell ⟨w.heap.size,1,none⟩ (.int .i64 s4.e)).setCell ⟨w.heap.size+4,3,none⟩ (.bool dis)=W4 at *
 clear p0 p1 pf kk kf
 with_reducible refine (HT5.out W4).mono ?_
 rintro e w5 ⟨A,c,rfl,ho,hnw,ht⟩
 unfold xS
 have hsz:w.heap.size+4<W4.heap.size:=(Array.getElem?_eq_some_iff.1 (HG4.out.v _ rfl)).1
 have hg:=HG4.out.still ht
 clear r0 r1
 have p0:_=some (.string ⟨s4.bs.toArray⟩:Value):=zc hg.r 0
 have p1:_=some (.int .i64 s4.e:Value):=zc hg.r 1
 have pf:=xB hg.r
 have kk:_=some (.slice none 0 0:Value):=zc (hg.v _ rfl) 4
 have kf:=xB (hg.v _ rfl)
 have hg2:=hg.read (a':=.string ⟨s5.bs.toArray⟩) (b':=.int .i64 s5.e) (j:=4) (x:=.slice A gs.length c) (xs':=#[.string x1,.string x2,.string x3,.bool dis,.slice A gs.length c]) rfl
 have HG5:=z8 hg2
 have r0:_=some (.string ⟨s5.bs.toArray⟩:Value):=zc hg2.r 0
 have r1:_=some (.int .i64 s5.e:Value):=zc hg2.r 1
 have HO5:Hid (Yy w A gs c (((w5.setCell ⟨w.heap.size,0,none⟩ (.string ⟨s5.bs.toArray⟩)).setCell ⟨w.heap.size,1,none⟩ (.int .i64 s5.e)).setCell ⟨w.heap.size+4,4,none⟩ (.slice A gs.length c))):=Yy.turns (S:=fun i=>i=w.heap.size∨i=w.heap.size+4) (W:=w5) ⟨ho,fun j hj=>by have:=hnw j hj; omega⟩
  ((((zb.refl _ _).setCell (p:=⟨w.heap.size,0,none⟩) (fun _=>.inl rfl) _).setCell (p:=⟨w.heap.size,1,none⟩) (fun _=>.inl rfl) _).setCell (p:=⟨w.heap.size+4,4,none⟩) (fun _=>.inr rfl) _) (fun j hj=>by omega)
 clear ho hnw hsz
 clear hg hg2 ht HG4 HT5
 go_wp2_with fail
 generalize ((w5.setCell ⟨w.heap.size,0,none⟩ (.string ⟨s5.bs.toArray⟩)).setCell ⟨w.heap.size,1,none⟩ (.int .i64 s5.e)).setCell ⟨w.heap.size+4,4,none⟩ (.slice A gs.length c)=W5 at *
 clear p0 p1 pf kk kf
 clear r0 r1
 refine zE (by kernel_rfl) (YC6 2 (.agg #[.string ⟨s5.bs.toArray⟩,.int .i64 s5.e]) (.agg #[.string x1,.string x2,.string x3,.bool dis,.slice A gs.length c]) ck (.agg #[.string ⟨s6.bs.toArray⟩,.int .i64 s6.e])) (GC6 w #[.string ⟨s5.bs.toArray⟩,.int .i64 s5.e] #[.string ⟨s6.bs.toArray⟩,.int .i64 s6.e] #[.string ⟨#[]⟩,.int .i64 0] #[.string ⟨#[]⟩,.string ⟨#[]⟩,.string ⟨#[]⟩,.bool false,.slice none 0 0] (some #[.string x1,.string x2,.string x3,.bool dis,.slice A gs.length c]) A gs c) ?F ?hF (by kernel_rfl) (by kernel_rfl) ⟨HG5.out.still ((zb.refl _ _).drew),HO5.out.below (zy (Below.refl _ _)),fun h=>by cases h⟩ ?step ?fin
 case hF =>
  intro x
  simp only [List.map_cons,List.map_nil,xc,Act.put,List.setIfInBounds_toArray,List.set_cons_zero,List.set_cons_succ,Nat.zero_add,Nat.reduceAdd]
  exact rfl
 case step =>
  refine ⟨?_,?_,?_,?_,?_,?_,trivial⟩
  all_goals intro L x W hL hd hG hdep K hK
  ·
   have hg:=hG.ahead 0 (by omega) hL
   have r0:W.cell? ⟨w.heap.size,0,none⟩=some (.string ⟨s5.bs.toArray⟩):=zc hg.r 0
   have r1:W.cell? ⟨w.heap.size,1,none⟩=some (.int .i64 s5.e):=zc hg.r 1
   clear hdep hg
   go_simp
   exact hK _ _ rfl (hG.quiet 0 (by omega) hL (Below.refl _ _)) (fun _ _ h=>h)
  ·
   clear hdep
   go_simp
   exact hK _ _ rfl (hG.quiet 1 (by omega) hL (Below.refl _ _)) (fun _ _ h=>h)
  ·
   have hg:=hG.ahead 2 (by omega) hL
   have k0:W.cell? ⟨w.heap.size+4,0,none⟩=some (.string x1):=zc (hg.v _ rfl) 0
   have k1:W.cell? ⟨w.heap.size+4,1,none⟩=some (.string x2):=zc (hg.v _ rfl) 1
   have k2:W.cell? ⟨w.heap.size+4,2,none⟩=some (.string x3):=zc (hg.v _ rfl) 2
   have k3:W.cell? ⟨w.heap.size+4,3,none⟩=some (.bool dis):=zc (hg.v _ rfl) 3
   have k4:W.cell? ⟨w.heap.size+4,4,none⟩=some (.slice A gs.length c):=zc (hg.v _ rfl) 4
   clear hdep hg
   go_simp
   exact hK _ _ rfl (hG.quiet 2 (by omega) hL (Below.refl _ _)) (fun _ _ h=>h)
  ·
   have h1:x 1=_:=hdep 1 rfl
   have h2:x 2=_:=hdep 2 rfl
   clear hdep
   simp only [h1,h2] at hK
   go_simp
   refine (HCK.out W A c hG.2.1).mono ?_
   rintro e W' ⟨rfl,hb⟩
   exact hK _ _ rfl (hG.quiet 3 (by omega) hL hb) (fun j _ h=>qD j _ h)
  ·
   have h0:x 0=_:=hdep 0 rfl
   have h3:x 3=_:=hdep 3 rfl
   clear hdep
   simp only [h0,h3] at hK
   go_simp
   refine (HFL.out W).mono ?_
   rintro e W' ⟨rfl,ht⟩
   exact hK _ _ rfl (hG.quiet 4 (by omega) hL (ht.below (fun _ f=>f.elim))) (fun j _ h=>qD j _ h)
  ·
   have h4:x 4=.agg #[.string ⟨s6.bs.toArray⟩,.int .i64 s6.e]:=hdep 4 rfl
   have hd0:∀ j,j<5→L j=true:=fun j hj=>hd j (by rcases j with _ | _ | _ | _ | _ | j <;> first | rfl | omega)
   refine zJ (by rfl) 117 (.tmp 2) (.tmp 55) rfl w.heap.size rfl _ h4 _ _ hG.1.r jA (yM rfl rfl) (by simp [Value.oneCell']) ?_
   exact hK _ _ trivial (hG.stored hd0) (fun j _ h=>qD j _ h)
 case fin =>
  intro L x W8 hall hG hY
  have hg:=hG.1
  rw [hall 5 (by decide),if_pos rfl] at hg
  have HG8:=z8 hg
  have HO8:=z8 hG.2.1
  have r1:_=some (.int .i64 s6.e:Value):=zc hg.r 1
  clear hY hG hg hall HCK HFL HG5 HO5
  by_cases h0:s6.e=0
  ·
   have h0d:(s6.e != 0)=false:=by simpa using h0
   have HP1:Hid (∀ W,Yy w A gs c W→zb (fun _=>False) w W→J6 w s6 u (.returned (.tuple #[.agg #[.string ⟨s6.bs.toArray⟩,.int .i64 s6.e],.agg #[.string x1,.string x2,.string x3,.bool dis,.slice A gs.length c]])) W):=fun W ho ht=>by
    refine ⟨A,c,by rw [if_pos h0,HU.out,HGS.out]; rfl,?_,?_,ht⟩
    ·
     rw [HGS.out]; exact ho.1
    ·
     rw [HGS.out]; exact fun j hj=>by have:=ho.2 j hj; omega
   clear HU
   go_wp2_with fail
   clear r1 h0 h0d
   refine zE (by kernel_rfl) (YL6 (.agg #[.string ⟨s6.bs.toArray⟩,.int .i64 s6.e]) (.agg #[.string x1,.string x2,.string x3,.bool dis,.slice A gs.length c])) (GL6 w #[.string ⟨s6.bs.toArray⟩,.int .i64 s6.e] #[.string ⟨#[]⟩,.int .i64 0] #[.string ⟨s6.bs.toArray⟩,.int .i64 s6.e] #[.string ⟨#[]⟩,.string ⟨#[]⟩,.string ⟨#[]⟩,.bool false,.slice none 0 0] #[.string x1,.string x2,.string x3,.bool dis,.slice A gs.length c] (some #[.string x1,.string x2,.string x3,.bool dis,.slice A gs.length c]) A gs c) ?F1 ?hF1 (by kernel_rfl) (by kernel_rfl) ⟨HG8.out.still ((zb.refl _ _).drew),HO8.out.below (zy (Below.refl _ _))⟩ ?step1 ?fin1
   case hF1 =>
    intro x
    simp only [List.map_cons,List.map_nil,xc,Act.put,List.setIfInBounds_toArray,List.set_cons_zero,List.set_cons_succ,Nat.zero_add]
    exact rfl
   case step1 =>
    refine ⟨?_,?_,?_,?_,trivial⟩
    all_goals intro L x W hL hd hG hdep K hK
    ·
     have hg:=hG.1
     have r0:W.cell? ⟨w.heap.size,0,none⟩=some (.string ⟨s6.bs.toArray⟩):=zc hg.r 0
     have r1:W.cell? ⟨w.heap.size,1,none⟩=some (.int .i64 s6.e):=zc hg.r 1
     clear hdep hg
     go_simp
     exact hK _ _ rfl (hG.quiet 0 (by omega)) (fun _ _ h=>h)
    ·
     have hg:=hG.1
     have k0:W.cell? ⟨w.heap.size+4,0,none⟩=some (.string x1):=zc (hg.v _ rfl) 0
     have k1:W.cell? ⟨w.heap.size+4,1,none⟩=some (.string x2):=zc (hg.v _ rfl) 1
     have k2:W.cell? ⟨w.heap.size+4,2,none⟩=some (.string x3):=zc (hg.v _ rfl) 2
     have k3:W.cell? ⟨w.heap.size+4,3,none⟩=some (.bool dis):=zc (hg.v _ rfl) 3
     have k4:W.cell? ⟨w.heap.size+4,4,none⟩=some (.slice A gs.length c):=zc (hg.v _ rfl) 4
     clear hdep hg
     go_simp
     exact hK _ _ rfl (hG.quiet 1 (by omega)) (fun _ _ h=>h)
    ·
     have h0:x 0=.agg #[.string ⟨s6.bs.toArray⟩,.int .i64 s6.e]:=hdep 0 rfl
     refine zJ (by rfl) 117 (.tmp 4) (.tmp 61) rfl (w.heap.size+1) rfl _ h0 _ _ hG.1.q jA (yM rfl rfl) (by simp [Value.oneCell']) ?_
     exact hK _ _ trivial hG.storedQ (fun j _ h=>vZ j _ h)
    ·
     have h1:x 1=.agg #[.string x1,.string x2,.string x3,.bool dis,.slice A gs.length c]:=hdep 1 rfl
     refine zJ (by rfl) 47 (.tmp 5) (.tmp 62) rfl (w.heap.size+2) rfl _ h1 _ _ hG.1.y YK (yM rfl rfl) (by simp [Value.oneCell']) ?_
     exact hK _ _ trivial hG.storedY (fun j _ h=>vZ j _ h)
   case fin1 =>
    intro L x W hall hG hY
    have hg:=hG.1
    rw [hall 2 (by decide),hall 3 (by decide),if_pos rfl,if_pos rfl] at hg
    have q0:W.cell? ⟨w.heap.size+1,0,none⟩=some (.string ⟨s6.bs.toArray⟩):=zc hg.q 0
    have q1:W.cell? ⟨w.heap.size+1,1,none⟩=some (.int .i64 s6.e):=zc hg.q 1
    have y0:W.cell? ⟨w.heap.size+2,0,none⟩=some (.string x1):=zc hg.y 0
    have y1:W.cell? ⟨w.heap.size+2,1,none⟩=some (.string x2):=zc hg.y 1
    have y2:W.cell? ⟨w.heap.size+2,2,none⟩=some (.string x3):=zc hg.y 2
    have y3:W.cell? ⟨w.heap.size+2,3,none⟩=some (.bool dis):=zc hg.y 3
    have y4:W.cell? ⟨w.heap.size+2,4,none⟩=some (.slice A gs.length c):=zc hg.y 4
    have hfin:=HP1.out W hG.2 hg.t
    clear hY hG hg hall
    go_wp2
    refine bodyPost_ret (v:=.tuple #[.agg #[.string ⟨s6.bs.toArray⟩,.int .i64 s6.e],.agg #[.string x1,.string x2,.string x3,.bool dis,.slice A gs.length c]]) ?_ rfl hfin
    simp [results,Tryz.results89,go_sem,q0,q1,y0,y1,y2,y3,y4]
  ·
   have h0d:(s6.e != 0)=true:=by simpa using h0
   have HP2:Hid (∀ W,Yy w A gs c W→zb (fun _=>False) w W→J6 w s6 u (.returned (.tuple #[.agg #[.string ⟨s6.bs.toArray⟩,.int .i64 s6.e],.agg #[.string ⟨#[]⟩,.string ⟨#[]⟩,.string ⟨#[]⟩,.bool false,.slice none 0 0]])) W):=fun W ho ht=>by
    refine ⟨A,c,by rw [if_neg h0]; rfl,?_,?_,ht⟩
    ·
     rw [HGS.out]; exact ho.1
    ·
     rw [HGS.out]; exact fun j hj=>by have:=ho.2 j hj; omega
   clear HU
   go_wp2_with fail
   clear r1 h0 h0d
   refine zE (by kernel_rfl) (YL6 (.agg #[.string ⟨s6.bs.toArray⟩,.int .i64 s6.e]) (.agg #[.string ⟨#[]⟩,.string ⟨#[]⟩,.string ⟨#[]⟩,.bool false,.slice none 0 0])) (GL6 w #[.string ⟨s6.bs.toArray⟩,.int .i64 s6.e] #[.string ⟨#[]⟩,.int .i64 0] #[.string ⟨s6.bs.toArray⟩,.int .i64 s6.e] #[.string ⟨#[]⟩,.string ⟨#[]⟩,.string ⟨#[]⟩,.bool false,.slice none 0 0] #[.string ⟨#[]⟩,.string ⟨#[]⟩,.string ⟨#[]⟩,.bool false,.slice none 0 0] (some #[.string x1,.string x2,.string x3,.bool dis,.slice A gs.length c]) A gs c) ?F2 ?hF2 (by kernel_rfl) (by kernel_rfl) ⟨HG8.out.still ((zb.refl _ _).drew),HO8.out.below (zy (Below.refl _ _))⟩ ?step2 ?Uz
   case hF2 =>
    intro x
    simp only [List.map_cons,List.map_nil,xc,Act.put,List.setIfInBounds_toArray,List.set_cons_zero,List.set_cons_succ,Nat.zero_add]
    exact rfl
   case step2 =>
    refine ⟨?_,?_,?_,?_,trivial⟩
    all_goals intro L x W hL hd hG hdep K hK
    ·
     have hg:=hG.1
     have r0:W.cell? ⟨w.heap.size,0,none⟩=some (.string ⟨s6.bs.toArray⟩):=zc hg.r 0
     have r1:W.cell? ⟨w.heap.size,1,none⟩=some (.int .i64 s6.e):=zc hg.r 1
     clear hdep hg
     go_simp
     exact hK _ _ rfl (hG.quiet 0 (by omega)) (fun _ _ h=>h)
    ·
     have hg:=hG.1
     have k0:W.cell? ⟨w.heap.size+3,0,none⟩=some (.string ⟨#[]⟩):=zc hg.z 0
     have k1:W.cell? ⟨w.heap.size+3,1,none⟩=some (.string ⟨#[]⟩):=zc hg.z 1
     have k2:W.cell? ⟨w.heap.size+3,2,none⟩=some (.string ⟨#[]⟩):=zc hg.z 2
     have k3:W.cell? ⟨w.heap.size+3,3,none⟩=some (.bool false):=zc hg.z 3
     have k4:W.cell? ⟨w.heap.size+3,4,none⟩=some (.slice none 0 0):=zc hg.z 4
     clear hdep hg
     go_simp
     exact hK _ _ rfl (hG.quiet 1 (by omega)) (fun _ _ h=>h)
    ·
     have h0:x 0=.agg #[.string ⟨s6.bs.toArray⟩,.int .i64 s6.e]:=hdep 0 rfl
     refine zJ (by rfl) 117 (.tmp 4) (.tmp 59) rfl (w.heap.size+1) rfl _ h0 _ _ hG.1.q jA (yM rfl rfl) (by simp [Value.oneCell']) ?_
     exact hK _ _ trivial hG.storedQ (fun j _ h=>vZ j _ h)
    ·
     have h1:x 1=.agg #[.string ⟨#[]⟩,.string ⟨#[]⟩,.string ⟨#[]⟩,.bool false,.slice none 0 0]:=hdep 1 rfl
     refine zJ (by rfl) 47 (.tmp 5) (.tmp 60) rfl (w.heap.size+2) rfl _ h1 _ _ hG.1.y YK (yM rfl rfl) (by simp [Value.oneCell']) ?_
     exact hK _ _ trivial hG.storedY (fun j _ h=>vZ j _ h)
   case Uz =>
    intro L x W hall hG hY
    have hg:=hG.1
    rw [hall 2 (by decide),hall 3 (by decide),if_pos rfl,if_pos rfl] at hg
    have q0:W.cell? ⟨w.heap.size+1,0,none⟩=some (.string ⟨s6.bs.toArray⟩):=zc hg.q 0
    have q1:W.cell? ⟨w.heap.size+1,1,none⟩=some (.int .i64 s6.e):=zc hg.q 1
    have y0:W.cell? ⟨w.heap.size+2,0,none⟩=some (.string ⟨#[]⟩):=zc hg.y 0
    have y1:W.cell? ⟨w.heap.size+2,1,none⟩=some (.string ⟨#[]⟩):=zc hg.y 1
    have y2:W.cell? ⟨w.heap.size+2,2,none⟩=some (.string ⟨#[]⟩):=zc hg.y 2
    have y3:W.cell? ⟨w.heap.size+2,3,none⟩=some (.bool false):=zc hg.y 3
    have y4:W.cell? ⟨w.heap.size+2,4,none⟩=some (.slice none 0 0):=zc hg.y 4
    have hfin:=HP2.out W hG.2 hg.t
    clear hY hG hg hall
    go_wp2
    refine bodyPost_ret (v:=.tuple #[.agg #[.string ⟨s6.bs.toArray⟩,.int .i64 s6.e],.agg #[.string ⟨#[]⟩,.string ⟨#[]⟩,.string ⟨#[]⟩,.bool false,.slice none 0 0]]) ?_ rfl hfin
    simp [results,Tryz.results89,go_sem,q0,q1,y0,y1,y2,y3,y4]

theorem JF (st:St) (n:Nat):(zO st n).2.length≤st.bs.length:=by
 unfold zO
 split
 ·
  simp
 ·
  simp only [List.length_take]; omega
theorem zX (st:St) (m:Int):(zj st m).2.length≤st.bs.length:=Nat.le_trans (JF _ _) (xx st m)
theorem vS (st:St):(yj st).1.bs.length≤st.bs.length:=by
 unfold yj
 split
 ·
  exact Nat.le_trans (yI _ _) (yf st 1)
 ·
  exact yf st 1
theorem jI (l:List UInt8):(mk6 l).size=l.length:=by
 show l.toArray.size=_
 rw [List.size_toArray]
theorem fC (long:Int) (n:Nat):∀ (k:Nat) (st:St) (acc:List ByteArray),st.bs.length≤n→(∀ s∈acc,s.size≤n)→∀ s∈(rowGo long k st acc).2,s.size≤n
 | 0,_,_,_,h=>h
 | k+1,st,acc,hl,h=>by
  unfold rowGo
  split
  ·
   intro s hs; cases hs
  ·
   refine fC long n k _ _ (Nat.le_trans (zI st long) hl) (fun s hs=>?_)
   rcases List.mem_append.1 hs with hs | hs
   ·
    exact h s hs
   ·
    rw [List.mem_singleton.1 hs]
    have h1:=jI (zj st long).2
    have h2:=zX st long
    unfold mk6 at h1
    omega
theorem vH (st:St) (m l:Int):∀ s∈(xI st m l).2,s.size≤st.bs.length :=
 fC l _ _ _ _ (xx st m) (fun s hs=>by cases hs)

def XH (st:St):St×Us:=((zj (zj st 65535).1 65535).1,fF (zj st 65535).2 (zj (zj st 65535).1 65535).2)
def two6S (st:St) (nm hs:List UInt8):St×Us :=
 ((xI (yj (zj st 65535).1).1 65535 65535).1,fz nm hs (zj st 65535).2 (yj (zj st 65535).1).2 (xI (yj (zj st 65535).1).1 65535 65535).2)
def yP (s:Int) (st:St):St×Us :=
 if s=1 then (zu (XH st).1 (yk 1 (XH st).2),(XH st).2)
 else if s=2 then (zu (two6S (XH st).1 (zj st 65535).2 (zj (zj st 65535).1 65535).2).1 (yk 2 (two6S (XH st).1 (zj st 65535).2 (zj (zj st 65535).1 65535).2).2),(two6S (XH st).1 (zj st 65535).2 (zj (zj st 65535).1 65535).2).2)
 else (zu st 6,qF)
theorem Ut {s:Int} (h:vo s=false) (st:St):yP s st=(zu st 6,qF):=by
 simp only [vo,Bool.or_eq_false_iff,decide_eq_false_iff_not] at h
 unfold yP
 rw [if_neg h.1,if_neg h.2]

theorem Js {st s1 s2:St} {nm hs:List UInt8} (h1:zj st 65535=(s1,nm)) (h2:zj s1 65535=(s2,hs)):yP 1 st=(zu s2 (yk 1 (fF nm hs)),fF nm hs):=by
 unfold yP XH
 rw [if_pos rfl]
 simp only [h1,h2]
theorem vf {st s1 s2 s3 s4 s5:St} {nm hs ml:List UInt8} {dis:Bool} {gs:List ByteArray} (h1:zj st 65535=(s1,nm)) (h2:zj s1 65535=(s2,hs)) (h3:zj s2 65535=(s3,ml)) (h4:yj s3=(s4,dis)) (h5:xI s4 65535 65535=(s5,gs)) :
  yP 2 st=(zu s5 (yk 2 (fz nm hs ml dis gs)),fz nm hs ml dis gs):=by
 unfold yP XH two6S
 rw [if_neg (by decide),if_pos rfl]
 simp only [h1,h2,h3,h4,h5]
structure Parts6 (st s1 s2 s3 s4 s5:St) (nm hs ml:List UInt8) (dis:Bool) (gs:List ByteArray):Prop where
 h1:zj st 65535=(s1,nm)
 h2:zj s1 65535=(s2,hs)
 h3:zj s2 65535=(s3,ml)
 h4:yj s3=(s4,dis)
 h5:xI s4 65535 65535=(s5,gs)
 l1:s1.bs.length≤1000
 l2:s2.bs.length≤1000
 l3:s3.bs.length≤1000
 l4:s4.bs.length≤1000
 f1:nm.length≤1000
 f2:hs.length≤1000
 f3:ml.length≤1000
 f5:∀ s∈gs,s.size≤1000
theorem parts6 (st:St) (hl:st.bs.length≤1000):∃ s1 s2 s3 s4 s5 nm hs ml dis gs,Parts6 st s1 s2 s3 s4 s5 nm hs ml dis gs:=by
 have l1:=zI st 65535
 have f1:=zX st 65535
 rcases h1:zj st 65535 with ⟨s1,nm⟩
 rw [h1] at l1 f1
 have l2:=zI s1 65535
 have f2:=zX s1 65535
 rcases h2:zj s1 65535 with ⟨s2,hs⟩
 rw [h2] at l2 f2
 have l3:=zI s2 65535
 have f3:=zX s2 65535
 rcases h3:zj s2 65535 with ⟨s3,ml⟩
 rw [h3] at l3 f3
 have l4:=vS s3
 rcases h4:yj s3 with ⟨s4,dis⟩
 rw [h4] at l4
 have f5:=vH s4 65535 65535
 rcases h5:xI s4 65535 65535 with ⟨s5,gs⟩
 rw [h5] at f5
 dsimp only at l1 l2 l3 l4 f1 f2 f3 f5
 exact ⟨s1,s2,s3,s4,s5,nm,hs,ml,dis,gs,h1,h2,h3,h4,h5,by omega,by omega,by omega,by omega,by omega,by omega,by omega,fun s hs=>by have:=f5 s hs; omega⟩


theorem rget6_all (s:Int) (st:St) (w:World) (hok:Ok st) (hl:st.bs.length≤1000) :
  Calls Tryz.prog 89 #[xS st,.int .i64 s] w (J6 w (yP s st).1 (yP s st).2):=by
 cases hk:vo s with
 | false =>
  rw [Ut hk]
  exact JT s st w hk
 | true =>
  obtain ⟨s1,s2,s3,s4,s5,nm,hs,ml,dis,gs,p⟩:=parts6 st hl
  obtain ⟨h1,h2,h3,h4,h5,l1,l2,l3,l4,f1,f2,f3,f5⟩:=p
  have o1:Ok s1:=by have:=hok.text 65535; rw [h1] at this; exact this
  have o2:Ok s2:=by have:=o1.text 65535; rw [h2] at this; exact this
  have hs:s=1∨s=2:=by simpa [vo] using hk
  rcases hs with rfl | rfl
  ·
   rw [Js h1 h2]
   exact rget6_one st w _ _ _ _ _ h1 h2 rfl hok hl o1 l1 f1 f2
  ·
   have o3:Ok s3:=by have:=o2.text 65535; rw [h3] at this; exact this
   have o4:Ok s4:=by have:=o3.truth; rw [h4] at this; exact this
   rw [vf h1 h2 h3 h4 h5]
   exact rget6_two st w _ _ _ _ _ _ _ _ _ _ _ h1 h2 h3 h4 h5 rfl hok hl o1 l1 o2 l2 o3 l3 o4 l4 f1 f2 f3 f5

structure Us.Short (u:Us):Prop where
 nm:u.nm.size≤1000
 hs:u.hs.size≤1000
 ml:u.ml.size≤1000
 all:∀ s∈u.gs,s.size≤1000
theorem Ft (s:Int) (st:St) (hl:st.bs.length≤1000):(yP s st).2.Short:=by
 cases hk:vo s with
 | false =>
  rw [Ut hk]
  exact ⟨Nat.zero_le _,Nat.zero_le _,Nat.zero_le _,fun s hs=>by cases hs⟩
 | true =>
  obtain ⟨s1,s2,s3,s4,s5,nm,hs,ml,dis,gs,p⟩:=parts6 st hl
  obtain ⟨h1,h2,h3,h4,h5,l1,l2,l3,l4,f1,f2,f3,f5⟩:=p
  rw [← jI] at f1 f2 f3
  have hs:s=1∨s=2:=by simpa [vo] using hk
  rcases hs with rfl | rfl
  ·
   rw [Js h1 h2]
   exact ⟨f1,f2,Nat.zero_le _,fun s hs=>by cases hs⟩
  ·
   rw [vf h1 h2 h3 h4 h5]
   exact ⟨f1,f2,f3,f5⟩

theorem YF (l r:List UInt8):zO ⟨l++r,0⟩ l.length=(⟨r,0⟩,l):=by
 unfold zO
 rw [if_neg (by simp),List.drop_left,List.take_left]
theorem jH (x k:Nat) (r:List UInt8):zt ⟨le x k++r,0⟩ k=(⟨r,0⟩,x % 256 ^ k):=by
 have h:=YF (le x k) r
 rw [zQ] at h
 unfold zt
 rw [h,val_le]
theorem Q6 (b:Bool) (r:List UInt8):yj ⟨le b.toNat 1++r,0⟩=(⟨r,0⟩,b):=by
 unfold yj
 rw [jH]
 cases b <;> rfl
theorem fI (n:Nat) (r:List UInt8) (most:Int) (hn:n≤65535) (hm:(n:Int)≤most):zi ⟨le n 2++r,0⟩ most=(⟨r,0⟩,n):=by
 unfold zi
 rw [jH,Nat.mod_eq_of_lt (by omega),if_neg (by omega)]
theorem qo (s:ByteArray) (r:List UInt8) (most:Int) (hs:s.size≤65535) (hm:(s.size:Int)≤most):zj ⟨zo s++r,0⟩ most=(⟨r,0⟩,s.data.toList):=by
 unfold zj zo
 rw [List.append_assoc,fI _ _ _ hs hm]
 have h:=YF s.data.toList r
 rwa [yw] at h
theorem uI (s:ByteArray):ByteArray.mk s.data.toList.toArray=s:=by
 obtain ⟨⟨l⟩⟩:=s
 rfl
theorem YN (long:Int):∀ (ss acc:List ByteArray) (r:List UInt8),(∀ s∈ss,s.size≤65535∧(s.size:Int)≤long)→rowGo long ss.length ⟨zL ss++r,0⟩ acc=(⟨r,0⟩,acc++ss)
 | [],acc,r,_=>by simp [rowGo,zL]
 | s::ss,acc,r,h=>by
  have h1:=h s (List.mem_cons_self ..)
  have e:zL (s::ss)++r=zo s++(zL ss++r):=by simp [zL]
  rw [List.length_cons,e]
  unfold rowGo
  rw [qo s _ long h1.1 h1.2,if_neg (by simp),uI,YN long ss _ r (fun t ht=>h t (List.mem_cons_of_mem _ ht)),List.append_assoc]
  rfl
theorem VJ (ss:List ByteArray) (r:List UInt8) (most long:Int) (hn:ss.length≤65535) (hm:(ss.length:Int)≤most) (h:∀ s∈ss,s.size≤65535∧(s.size:Int)≤long):xI ⟨xR ss++r,0⟩ most long=(⟨r,0⟩,ss):=by
 unfold xI xR
 rw [List.append_assoc,fI _ _ _ hn hm,YN long ss [] r h,List.nil_append]

theorem Vr {s:Int} {u:Us} (h:u.Little):(zR s u).length≤1000:=by
 have h1:=h.nm
 have h2:=h.hs
 have h3:=h.ml
 have h4:=Zs u h
 unfold zR
 split
 ·
  simp only [List.length_append,yE,zQ]
  omega
 ·
  simp only [List.length_append,yE,List.length_nil]
  omega

end Go.Proofs.YthmomkjingcbiaaGreatDoor
namespace Go.Proofs.YthmomkjingcbiaaGreatDoor
open Go.ChangeShapes Go.WideShapes Go.ChangeAt Go.RowKit Go.Deep



section
variable {H:Type} {enc:TypeId×Value→H} {W:World} {base b0:Nat} {sp:Nat→Bool} {hd:Bool} {fuel:Nat}


end
end Go.Proofs.YthmomkjingcbiaaGreatDoor
namespace Go.Proofs.YthmomkjingcbiaaGreatDoor
open Go.RowKit

end Go.Proofs.YthmomkjingcbiaaGreatDoor
