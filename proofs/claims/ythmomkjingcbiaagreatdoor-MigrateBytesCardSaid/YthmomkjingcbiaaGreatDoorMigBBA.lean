/-
  The texts that the laws of this seat share, part 1: what the code and the document's own answers tell, walked function by function.
  Conditions: each theorem's own.
-/
import Derived.WalkKit
import Derived.Deep.AppendSrc
import Derived.Deep.AppendLies
import Derived.Deep.Draws
import Derived.Deep.RegionLaw
import Derived.Laws.IdiomStrings
import Derived.Test.YthmomkjingcbiaaGreatDoorProg
import Derived.WalkSpells
import Derived.WalkLawsBesides
import Derived.Lib.Hide
import Derived.KernelRfl
import Derived.Lib.SliceRun
import Derived.LaidEqlPtr
import Derived.Laws.Concat
import Derived.Lib.IndexBytes
import Derived.Deep.RegionHeld3
import Derived.Orders
set_option maxHeartbeats 16000000
namespace Go.Proofs.YthmomkjingcbiaaGreatDoor
open Go.RowKit

theorem z8 {p:Prop} (h:p):Hid p:=h
structure zb (S:Nat→Prop) (w w':World):Prop where
 os:w'.os=w.os
 tape:w'.tape=w.tape
 output:w'.output=w.output
 size:w.heap.size≤w'.heap.size
 block:∀ k,k<w.heap.size→¬ S k→w'.heap[k]? = w.heap[k]?

section
variable {S S':Nat→Prop} {a w w':World}
theorem zb.refl (S:Nat→Prop) (w:World):zb S w w:=⟨rfl,rfl,rfl,Nat.le_refl _,fun _ _ _=>rfl⟩
theorem zb.next (h:zb S a w) (k:zb S' w w') (hs:∀ i,i<a.heap.size→S' i→S i):zb S a w' :=
 ⟨k.os.trans h.os,k.tape.trans h.tape,k.output.trans h.output,Nat.le_trans h.size k.size,
  fun i hi hn=>(k.block i (Nat.lt_of_lt_of_le hi h.size) (fun hc=>hn (hs i hi hc))).trans (h.block i hi hn)⟩
theorem zb.mono (h:zb S a w) (hs:∀ i,i<a.heap.size→S i→S' i):zb S' a w :=
 ⟨h.os,h.tape,h.output,h.size,fun i hi hn=>h.block i hi (fun hc=>hn (hs i hi hc))⟩
theorem zb.drew (h:zb S a w):zb S a w.drew:=⟨h.os,h.tape,h.output,h.size,h.block⟩
theorem zb.drewN (h:zb S a w) (n:Nat):zb S a (w.drewN n):=⟨h.os,h.tape,h.output,h.size,h.block⟩
theorem zb.alloc (h:zb S a w) (o:Obj):zb S a (w.alloc o) :=
 h.next (S':=fun _=>False) ⟨rfl,rfl,rfl,by simp,fun k hk _=>Below.heap_alloc _ _ _ hk⟩ (fun _ _ hf=>hf.elim)
theorem zb.setCell (h:zb S a w) {p:Addr} (hp:p.block<a.heap.size→S p.block) (u:Value):zb S a (w.setCell p u) :=
 h.next (S':=fun i=>i=p.block) ⟨rfl,rfl,rfl,by simp [World.setCell],fun k _ hk=>Below.heap_setCell _ _ _ _ hk⟩ (fun i hi he=>by subst he; exact hp hi)
theorem zb.grown (h:zb S a w) {row:Option Nat} (hg:w.grownBy w' row) (hr:∀ k,row=some k→k<a.heap.size→S k):zb S a w' :=
 h.next (S':=fun i=>row=some i) ⟨hg.os,hg.tape,hg.output,hg.size,fun k hk hn=>hg.block k hk (fun e=>hn e.symm)⟩ (fun i hi he=>hr i he hi)
theorem zb.below (h:zb S a w) (hs:∀ i,S i→a.heap.size≤i):Below a.heap.size a w :=
 ⟨h.os,h.tape,h.output,h.size,fun k hk=>h.block k hk (fun hc=>by have:=hs k hc; omega)⟩
theorem zb.of_below (h:Below a.heap.size a w) (S:Nat→Prop):zb S a w:=⟨h.os,h.tape,h.output,h.size,fun k hk _=>h.block k hk⟩
theorem zb.below_at (h:zb S a w) {B:Nat} (hB:B≤a.heap.size) (hs:∀ i,S i→B≤i):Below B a w :=
 ⟨h.os,h.tape,h.output,h.size,fun k hk=>h.block k (by omega) (fun hc=>by have:=hs k hc; omega)⟩
theorem zb.cell (h:zb S a w) {p:Addr} (hl:p.block<a.heap.size) (hn:¬ S p.block):w.cell? p=a.cell? p:=World.cell?_of_block (h.block p.block hl hn)
theorem zb.owns {e:TypeId} {size n:Nat} {v:Value} {xs:List Value} (h:zb S a w) (ho:a.ownsRow 0 e size v n xs) (hn:∀ k,v.ownBlock=some k→¬ S k):w.ownsRow 0 e size v n xs:=by
 refine ⟨ho.1,?_⟩
 rcases ho.2 with h0 | ⟨g,cap,cur,rfl,hb,hg,rest⟩
 ·
  exact .inl h0
 ·
  exact .inr ⟨g,cap,cur,rfl,hb,(h.block g (Array.getElem?_eq_some_iff.1 hg).1 (hn g rfl)).trans hg,rest⟩
end

def cellsOf (l:List UInt8):List Value:=l.map fun b=>Value.int .u8 b.toNat
theorem ug (l:List UInt8):(cellsOf l).length=l.length:=by simp [cellsOf]
theorem Yw (a b:List UInt8):cellsOf (a++b)=cellsOf a++cellsOf b:=by simp [cellsOf]
theorem yw (s:ByteArray):s.data.toList.length=s.size:=by rw [Array.length_toList]; rfl
theorem Y1 (l:List UInt8):∀ u∈cellsOf l,u.oneCell'=true:=by
 intro u hu
 obtain ⟨_,_,rfl⟩:=List.mem_map.1 hu
 rfl

theorem yD {w:World} {e:TypeId} {size n:Nat} {v:Value} {xs:List Value} (h:w.ownsRow 0 e size v n xs):∃ A c,v=.slice A n c:=by
 rcases h.2 with ⟨rfl,rfl⟩ | ⟨g,cap,cur,rfl,_⟩
 ·
  exact ⟨_,_,rfl⟩
 ·
  exact ⟨_,_,rfl⟩

section
variable {P:Program} (w:World)
theorem Yj (t tx ty e:TypeId) (i:TypeInfo) (z:Value) (size bytes:Nat) (ht:P.underlying t=some (.slice e)) (hi:P.info? e=some i) (hz:i.zero=some z)
  (hsize:i.size=size) (hby:i.bytes=bytes) (hzs:z.cells.size=size)
  (v:Value) (n:Nat) (xs:List Value) (hown:w.ownsRow 0 e size v n xs) (x:Value) (m:Nat) (news:List Value) (hs:Src P size tx x m news w)
  (h63:n+m≤maxLen) (hbytes:(n+m) * bytes≤140737488355328) :
  ∃ v' w',(Builtin.append_ #[t,tx] ty #[v,x]).run P w=.ok v' w'∧w'.ownsRow 0 e size v' (n+m) (xs++news)∧w.grownBy w' v.ownBlock ∧
   (v'.ownBlock=v.ownBlock∨v'.ownBlock=some w.heap.size):=by
 subst hsize
 subst hby
 have hlen:(xs++news).length=(n+m) * i.size:=by rw [List.length_append,hown.1,hs.newsLen,Nat.add_mul]
 have fresh:∀ old:Nat,∀ row:Option Nat,
   (w.drew.alloc (.cells ((xs++news).toArray++Builtin.zeroCells z.cells (grownCap w (n+m) old e - (n+m))) e)).ownsRow 0 e i.size
    (.slice (some ⟨w.heap.size,0,none⟩) (n+m) (grownCap w (n+m) old e)) (n+m) (xs++news) ∧
   w.grownBy (w.drew.alloc (.cells ((xs++news).toArray++Builtin.zeroCells z.cells (grownCap w (n+m) old e - (n+m))) e)) row:=by
  intro old row
  have hge:=grownCap_ge w (n+m) old e
  have hcm:grownCap w (n+m) old e≤maxLen:=grownCap_le_maxLen w (n+m) old e h63
  refine ⟨⟨hlen,.inr ⟨w.heap.size,_,_,rfl,Nat.zero_le _,heap_alloc_new w.drew _,hge,hcm,?_,?_⟩⟩,⟨rfl,rfl,rfl,by simp,fun k hk _=>Below.heap_alloc w.drew _ k hk⟩⟩
  ·
   simp only [Array.size_append,List.size_toArray,size_zeroCells,hzs,hlen,← Nat.add_mul]
   congr 1
   omega
  ·
   rw [Array.toList_append,← hlen]
   exact List.take_left
 have hsmall:((n+m:Nat):Int)≤9223372036854775807:=by simp only [maxLen] at h63; omega
 rcases hown.2 with ⟨rfl,rfl⟩ | ⟨g,cap,cur,rfl,hbg,hg,hnc,hcm,hcs,htake⟩
 ·
  have hx:xs=[]:=List.eq_nil_of_length_eq_zero (by simpa using hown.1)
  subst hx
  by_cases hm:m=0
  ·
   subst hm
   have hn:news=[]:=List.eq_nil_of_length_eq_zero (by simpa using hs.newsLen)
   subst hn
   refine ⟨.slice none 0 0,w,?_,World.ownsRow_nil w 0 e i.size,⟨rfl,rfl,rfl,Nat.le_refl _,fun _ _ _=>rfl⟩,Or.inl rfl⟩
   rcases hs.kind with ⟨e',hk⟩ | hk <;> simp [Builtin.append_,run_underlying ht,run_underlying hk,sizeOf,typeInfo,hi,hs.len,hs.cells]
  ·
   have hr:=run_append_grow_src (P:=P) w t tx ty e i z ht hi hz none 0 0 [] (run_firstCells_none w.drew i.size 0 0 0) x m news hs (by omega) hsmall (growslice_fits (by omega) hbytes)
   have hf:=fresh 0 (Value.ownBlock (.slice none 0 0))
   exact ⟨_,_,hr,hf.1,hf.2,Or.inr rfl⟩
 ·
  by_cases hroom:n+m≤cap
  ·
   have hfit:n * i.size+news.length≤cur.size:=by rw [hs.newsLen,hcs,← Nat.add_mul]; exact Nat.mul_le_mul_right _ hroom
   have hst:=run_storeCells_at P g (n * i.size) e news 0 cur w hg (by simpa using hfit) hs.one
   simp only [Nat.add_zero] at hst
   refine ⟨.slice (some ⟨g,0,none⟩) (n+m) cap,w.setRow g (cur.toList.take (n * i.size)++news++cur.toList.drop (n * i.size+news.length)).toArray,?_,
    ⟨hlen,.inr ⟨g,cap,_,rfl,hbg,setRow_heap w g cur _ e _ hg,hroom,hcm,?_,?_⟩⟩,⟨rfl,rfl,rfl,by simp,fun k _ hk=>setRow_other w g k _ (fun e=>hk (by simp [Value.ownBlock,e]))⟩,Or.inl rfl⟩
   ·
    rcases hs.kind with ⟨e',hk⟩ | hk <;> simp [Builtin.append_,run_underlying ht,run_underlying hk,sizeOf,typeInfo,hi,hs.len,hroom,hs.cells,Addr.add_lit,hst]
   ·
    simp only [List.size_toArray,List.length_append,List.length_take,List.length_drop,Array.length_toList]
    omega
   ·
    rw [htake,← hlen]
    exact List.take_left
  ·
   have holds:∀ j u,xs[j]? = some u→w.drew.cell? ((⟨g,0,none⟩:Addr).add j)=some u:=hown.cells (g:=g) rfl
   have hr:=run_append_grow_src (P:=P) w t tx ty e i z ht hi hz (some ⟨g,0,none⟩) n cap xs (run_firstCells_some w.drew i.size n ⟨g,0,none⟩ n cap xs hown.1 holds) x m news hs (by omega) hsmall (growslice_fits (by omega) hbytes)
   have hf:=fresh cap (Value.ownBlock (.slice (some ⟨g,0,none⟩) n cap))
   exact ⟨_,_,hr,hf.1,hf.2,Or.inr rfl⟩

theorem jr {o:Oper} {a:Act} {K:Act→World→Prop} {Q:Exit→Act→World→Prop} (s x:Operand) (t tx:TypeId)
  (ho:o.op=.call { callee:=.builtin .append,args:=#[s,x],argTypes:=#[t,tx] })
  (e:TypeId) (i:TypeInfo) (z:Value) (size bytes:Nat) (ht:P.underlying t=some (.slice e)) (hi:P.info? e=some i) (hz:i.zero=some z)
  (hsize:i.size=size) (hby:i.bytes=bytes) (hzs:z.cells.size=size)
  (v:Value) (n:Nat) (xs:List Value) (hv:a.eval s=v) (hown:w.ownsRow 0 e size v n xs) (y:Value) (m:Nat) (news:List Value) (hx:a.eval x=y) (hs:Src P size tx y m news w)
  (h63:n+m≤maxLen) (hbytes:(n+m) * bytes≤140737488355328)
  (h:∀ A c w',w'.ownsRow 0 e size (.slice A (n+m) c) (n+m) (xs++news)→w.grownBy w' v.ownBlock→(Value.ownBlock (.slice A (n+m) c)=v.ownBlock∨Value.ownBlock (.slice A (n+m) c)=some w.heap.size)→K (a.put o.dst (.slice A (n+m) c)) w'):o.wp P a w K Q:=by
 obtain ⟨v',w',hr,h2,h3,h4⟩:=Yj (P:=P) w t tx o.type e i z size bytes ht hi hz hsize hby hzs v n xs hown y m news hs h63 hbytes
 unfold Oper.wp execOp
 simp only [ho,resolve,invoke,builtin,Sem.run_bind,Sem.run_pure,Result.andThen_ok,List.map_toArray,List.map_cons,List.map_nil,hv,hx,hr]
 obtain ⟨A,c,rfl⟩:=yD h2
 exact h A c w' h2 h3 h4

theorem xe {ops:Array Oper} {rest:List Oper} {o:Oper} {a:Act} {Q:Exit→Act→World→Prop} (hgd:o.guard=none) (s x:Operand) (t tx:TypeId)
  (ho:o.op=.call { callee:=.builtin .append,args:=#[s,x],argTypes:=#[t,tx] })
  (e:TypeId) (i:TypeInfo) (z:Value) (size bytes:Nat) (ht:P.underlying t=some (.slice e)) (hi:P.info? e=some i) (hz:i.zero=some z)
  (hsize:i.size=size) (hby:i.bytes=bytes) (hzs:z.cells.size=size)
  (v:Value) (n:Nat) (xs:List Value) (hv:a.eval s=v) (hown:w.ownsRow 0 e size v n xs) (y:Value) (m:Nat) (news:List Value) (hx:a.eval x=y) (hs:Src P size tx y m news w)
  (h63:n+m≤maxLen) (hbytes:(n+m) * bytes≤140737488355328)
  (h:∀ A c w',w'.ownsRow 0 e size (.slice A (n+m) c) (n+m) (xs++news)→w.grownBy w' v.ownBlock→(Value.ownBlock (.slice A (n+m) c)=v.ownBlock∨Value.ownBlock (.slice A (n+m) c)=some w.heap.size)→wpList P ops Q rest (a.put o.dst (.slice A (n+m) c)) w'):wpList P ops Q (o::rest) a w :=
 wpList_plain hgd fun _ hK=>jr w s x t tx ho e i z size bytes ht hi hz hsize hby hzs v n xs hv hown y m news hx hs h63 hbytes fun A c w' h2 h3 h4=>hK _ _ (h A c w' h2 h3 h4)

theorem Zh {ops:Array Oper} {o:Oper} {a:Act} {K:Act→World→Prop} {Q:Exit→Act→World→Prop} {E:Prop} (hgd:o.guard=none) (s x:Operand) (t tx:TypeId)
  (ho:o.op=.call { callee:=.builtin .append,args:=#[s,x],argTypes:=#[t,tx] })
  (e:TypeId) (i:TypeInfo) (z:Value) (size bytes:Nat) (ht:P.underlying t=some (.slice e)) (hi:P.info? e=some i) (hz:i.zero=some z)
  (hsize:i.size=size) (hby:i.bytes=bytes) (hzs:z.cells.size=size)
  (v:Value) (n:Nat) (xs:List Value) (hv:a.eval s=v) (hown:w.ownsRow 0 e size v n xs) (y:Value) (m:Nat) (news:List Value) (hx:a.eval x=y) (hs:Src P size tx y m news w)
  (h63:n+m≤maxLen) (hbytes:(n+m) * bytes≤140737488355328)
  (h:∀ A c w',w'.ownsRow 0 e size (.slice A (n+m) c) (n+m) (xs++news)→w.grownBy w' v.ownBlock→(Value.ownBlock (.slice A (n+m) c)=v.ownBlock∨Value.ownBlock (.slice A (n+m) c)=some w.heap.size)→K (a.put o.dst (.slice A (n+m) c)) w') :
  if Region.wanted o (yielded ops a.tmps)=true then Oper.wp P o a w K Q else E:=by
 have hw:Region.wanted o (yielded ops a.tmps)=true:=by simp [Region.wanted,hgd]
 rw [if_pos hw]
 exact jr w s x t tx ho e i z size bytes ht hi hz hsize hby hzs v n xs hv hown y m news hx hs h63 hbytes h
end

def Rd (w:World) (v:Value) (l:List UInt8):Prop :=
 ∃ A c,v=.slice A l.length c∧(l≠[]→∃ ad:Addr,A=some ad∧ad.block<w.heap.size∧∀ j u,(cellsOf l)[j]? = some u→w.cell? (ad.add j)=some u)

theorem Y4 (a:Addr) (n:Nat):(a.add n).block=a.block:=by unfold Addr.add; split <;> rfl

section
variable {w w':World} {v:Value} {l:List UInt8}
theorem Rd.of_own {e:TypeId} (h:w.ownsRow 0 e 1 v l.length (cellsOf l)):Rd w v l:=by
 obtain ⟨A,c,rfl⟩:=yD h
 refine ⟨A,c,rfl,fun hn=>?_⟩
 have hp:0<l.length:=by cases l with | nil=>exact absurd rfl hn | cons _ _=>simp
 obtain ⟨g,cap,hv,_,hlt⟩:=h.form hp
 have hA:A=some ⟨g,0,none⟩:=by injection hv
 subst hA
 exact ⟨_,rfl,hlt,h.cells (g:=g) rfl⟩
theorem Rd.turns {S:Nat→Prop} (h:Rd w v l) (ht:zb S w w') (hn:∀ k,v.ownBlock=some k→¬ S k):Rd w' v l:=by
 obtain ⟨A,c,rfl,hc⟩:=h
 refine ⟨A,c,rfl,fun hl=>?_⟩
 obtain ⟨ad,rfl,hb,hcell⟩:=hc hl
 exact ⟨ad,rfl,Nat.lt_of_lt_of_le hb ht.size,fun j u hu=>(ht.cell (by rw [Y4]; exact hb) (by rw [Y4]; exact hn _ rfl)).trans (hcell j u hu)⟩
theorem Rd.still (h:Rd w v l) (ht:zb (fun _=>False) w w'):Rd w' v l:=h.turns ht (fun _ _ f=>f)
theorem Rd.src {P:Program} {t e:TypeId} (h:Rd w v l) (hk:P.underlying t=some (.slice e)):Src P 1 t v l.length (cellsOf l) w:=by
 obtain ⟨A,c,rfl,hc⟩:=h
 by_cases hl:l=[]
 ·
  subst hl
  cases A with
  | none=>exact Src.ofNil w hk c
  | some ad=>exact Src.ofSlice w hk ad 0 c [] rfl (fun j u hu=>by simp at hu) (fun u hu=>by cases hu)
 ·
  obtain ⟨ad,rfl,_,hcell⟩:=hc hl
  exact Src.ofSlice w hk ad l.length c _ (by simp [ug]) hcell (Y1 l)
theorem Rd.string {P:Program} {src dst e:TypeId} (h:Rd w v l) (hs:P.underlying src=some (.slice e)) (he:P.underlying e=some (.int .u8)) (hd:P.underlying dst=some .string) :
  (convert src dst v).run P w=.ok (.string ⟨l.toArray⟩) w:=by
 obtain ⟨A,c,rfl,hc⟩:=h
 cases A with
 | none =>
  have hl:l=[]:=by
   by_cases hl:l=[]
   ·
    exact hl
   ·
    obtain ⟨ad,h,_⟩:=hc hl
    cases h
  subst hl
  rw [run_convert_bytes_string w src dst e none _ c hs he hd]
  simp [Conv.bytesToString]
  rfl
 | some ad =>
  refine run_convert_bytes_back w src dst e ad c l hs he hd (fun j hj=>?_)
  obtain ⟨ad',h,_,hcell⟩:=hc (by intro h; subst h; simp at hj)
  injection h with h
  subst h
  exact hcell j _ (by simp [cellsOf,List.getElem?_eq_getElem hj])
end
theorem Rd.at_ {w:World} {v:Value} {l:List UInt8} (h:Rd w v l) (k:Nat) (hk:k<l.length):∃ g off c,v=.slice (some ⟨g,off,none⟩) l.length c∧w.cell? ⟨g,off+k,none⟩=some (.int .u8 (l[k].toNat:Int)):=by
 obtain ⟨A,c,rfl,h⟩:=h
 obtain ⟨ad,rfl,hb,hc⟩:=h (by intro e; subst e; simp at hk)
 have h1:=hc k (.int .u8 (l[k].toNat:Int)) (by simp [cellsOf,List.getElem?_eq_getElem hk])
 have h0:=hc 0 (.int .u8 (l[0].toNat:Int)) (by simp [cellsOf,List.getElem?_eq_getElem (show 0<l.length by omega)])
 have hs:(ad.add 0).spot=none:=World.cell?_spot h0
 obtain ⟨g,off,sp⟩:=ad
 have hsp:sp=none:=by
  cases sp with
  | none=>rfl
  | some p=>simp [Addr.add] at hs
 subst hsp
 rw [Addr.add_lit] at h1
 exact ⟨g,off,c,rfl,h1⟩
theorem Rd.shape {w:World} {v:Value} {l:List UInt8} (h:Rd w v l):∃ A c,v=.slice A l.length c:=by
 obtain ⟨A,c,rfl,_⟩:=h
 exact ⟨A,c,rfl⟩

theorem Rd.lt {w:World} {v:Value} {l:List UInt8} (h:Rd w v l) (hl:l≠[]):∀ k,v.ownBlock=some k→k<w.heap.size:=by
 intro k hk
 obtain ⟨A,c,rfl,hc⟩:=h
 obtain ⟨ad,rfl,hb,_⟩:=hc hl
 have:ad.block=k:=by simpa [Value.ownBlock] using hk
 omega

theorem XW:(Tryz.prog.info? 5).map (fun i=>(i.zero,i.size,i.bytes))=some (some (.int .u8 0),1,1):=by kernel_rfl

def le (x:Nat):Nat→List UInt8
 | 0=>[]
 | k+1=>le x k++[UInt8.ofNat (x / 256 ^ k)]
theorem zQ (x k:Nat):(le x k).length=k:=by
 induction k with
 | zero=>rfl
 | succ k ih=>simp [le,ih]

def Wtr (w:World) (B:Nat) (v:Value) (bs:List UInt8):Prop :=
 w.heap[B]? = some (.cells #[v] 82 (0,0))∧w.ownsRow 0 5 1 v bs.length (cellsOf bs)

def jW (w:World) (B:Nat) (v:Value) (bs:List UInt8) (w':World):Prop :=
 ∃ v',Wtr w' B v' bs∧(v'.ownBlock=v.ownBlock∨∃ k,v'.ownBlock=some k∧w.heap.size≤k)∧zb (fun i=>i=B∨v.ownBlock=some i) w w'

def UW (w:World) (B:Nat) (v:Value) (bs:List UInt8) (e:Ending) (w':World):Prop :=
 e=.returned (.pointer (some ⟨B,0,none⟩))∧jW w B v bs w'

theorem Wtr.ne {w:World} {B:Nat} {v:Value} {bs:List UInt8} (h:Wtr w B v bs):v.ownBlock≠some B:=by
 rcases h.2.2 with ⟨rfl,_⟩ | ⟨g,cap,cur,rfl,_,hg,_⟩
 ·
  simp [Value.ownBlock]
 ·
  intro he
  have:g=B:=by simpa [Value.ownBlock] using he
  subst this
  have:=h.1.symm.trans hg
  simp at this
theorem Wtr.lt {w:World} {B:Nat} {v:Value} {bs:List UInt8} (h:Wtr w B v bs):B<w.heap.size:=(Array.getElem?_eq_some_iff.1 h.1).1
theorem Wtr.cell {w:World} {B:Nat} {v:Value} {bs:List UInt8} (h:Wtr w B v bs):w.cell? ⟨B,0,none⟩=some v:=by
 rw [cell_of_row w B 0 #[v] _ (0,0) h.1]; rfl
theorem Wtr.free {w:World} {B:Nat} {v:Value} {bs:List UInt8} (h:Wtr w B v bs):w.frozen? ⟨B,0,none⟩=false:=by
 simp [World.frozen?,h.1]

theorem jW.start {w:World} {B:Nat} {v:Value} {bs:List UInt8} (h:Wtr w B v bs):jW w B v bs w:=⟨v,h,.inl rfl,zb.refl _ _⟩
theorem jW.next {w w1 w2:World} {B:Nat} {v v1:Value} {bs2:List UInt8} (h0:v1.ownBlock=v.ownBlock∨∃ k,v1.ownBlock=some k∧w.heap.size≤k)
  (ht:zb (fun i=>i=B∨v.ownBlock=some i) w w1) (h:jW w1 B v1 bs2 w2):jW w B v bs2 w2:=by
 obtain ⟨v2,hw2,h2,t2⟩:=h
 refine ⟨v2,hw2,?_,ht.next t2 ?_⟩
 ·
  rcases h2 with h2 | ⟨k,hk,hkl⟩
  ·
   rcases h0 with h0 | ⟨k,hk,hkl⟩
   ·
    exact .inl (h2.trans h0)
   ·
    exact .inr ⟨k,h2.trans hk,hkl⟩
  ·
   exact .inr ⟨k,hk,Nat.le_trans ht.size hkl⟩
 ·
  intro i hi hs
  rcases hs with hs | hs
  ·
   exact .inl hs
  ·
   rcases h0 with h0 | ⟨k,hk,hkl⟩
   ·
    exact .inr (h0 ▸ hs)
   ·
    rw [hk] at hs
    injection hs with hs
    omega
theorem Wtr.after {w w1 w2:World} {B:Nat} {v:Value} {bs:List UInt8} (h:Wtr w B v bs) (ht:zb (fun _=>False) w w1) (hg:w1.grownBy w2 v.ownBlock) :
  w2.cell? ⟨B,0,none⟩=some v∧w2.frozen? ⟨B,0,none⟩=false:=by
 have hB:w2.heap[B]? = some (.cells #[v] 82 (0,0)) :=
  (hg.block B (Nat.lt_of_lt_of_le h.lt ht.size) (fun e=>h.ne e.symm)).trans ((ht.block B h.lt (fun f=>f)).trans h.1)
 exact ⟨by rw [cell_of_row w2 B 0 #[v] _ (0,0) hB]; rfl,by simp [World.frozen?,hB]⟩
theorem jW.put {w w1 w2:World} {B:Nat} {v v':Value} {bs news:List UInt8} {n:Nat} (h:Wtr w B v bs) (ht:zb (fun _=>False) w w1)
  (hn:n=(bs++news).length) (ho:w2.ownsRow 0 5 1 v' n (cellsOf bs++cellsOf news)) (hg:w1.grownBy w2 v.ownBlock)
  (ha:v'.ownBlock=v.ownBlock∨v'.ownBlock=some w1.heap.size):jW w B v (bs++news) (w2.setCell ⟨B,0,none⟩ v'):=by
 subst hn
 have hB:w2.heap[B]? = some (.cells #[v] 82 (0,0)) :=
  (hg.block B (Nat.lt_of_lt_of_le h.lt ht.size) (fun e=>h.ne e.symm)).trans ((ht.block B h.lt (fun f=>f)).trans h.1)
 have hne:v'.ownBlock≠some B:=by
  rcases ha with ha | ha
  ·
   rw [ha]; exact h.ne
  ·
   rw [ha]; intro e; injection e with e; have:=h.lt; have:=ht.size; omega
 have ht2:zb (fun i=>i=B∨v.ownBlock=some i) w w2:=(ht.mono (fun _ _ f=>f.elim)).grown hg (fun k hk _=>.inr hk)
 refine ⟨v',⟨?_,?_⟩,?_,ht2.setCell (fun _=>.inl rfl) v'⟩
 ·
  simp [World.setCell,Array.getElem?_modify,hB]
 ·
  rw [Yw]
  refine ⟨by simpa using ho.1,?_⟩
  rcases ho.2 with h0 | ⟨g,cap,cur,rfl,hb,hgg,rest⟩
  ·
   exact .inl h0
  ·
   refine .inr ⟨g,cap,cur,rfl,hb,?_,rest⟩
   rw [Below.heap_setCell _ _ _ _ (fun e=>hne (by rw [show g=B from e]; rfl))]
   exact hgg
 ·
  rcases ha with ha | ha
  ·
   exact .inl ha
  ·
   exact .inr ⟨_,ha,ht.size⟩

theorem shr_byte (x k:Nat):(x:Int) / 2 ^ (8 * (k:Int)).toNat=((x / 256 ^ k:Nat):Int):=by
 rw [show (8 * (k:Int)).toNat=8 * k by omega,Int.natCast_ediv,Int.natCast_pow,Int.pow_mul]
 rfl
theorem FW (q:Nat):IntKind.u8.wrap (q:Int)=((UInt8.ofNat q).toNat:Int):=by
 simp [IntKind.wrap_u8']
theorem src_one (w:World) (b:UInt8):Src Tryz.prog 1 22 (.slice (some ⟨w.heap.size,0,none⟩) 1 1) 1 (cellsOf [b]) (w.alloc (.cells #[.int .u8 b.toNat] 5)).drew :=
 Src.ofSlice _ Tryz.underlying22 _ 1 1 _ rfl (cell_one_new _ _ _) (Y1 _)

set_option maxRecDepth 100000 in
theorem U1 (B:Nat) (v:Value) (bs:List UInt8) (x size:Nat) (w:World) (h:Wtr w B v bs) (hx:x<18446744073709551616) (hsize:size≤8) (hroom:bs.length+8≤1099511627776) :
  Calls Tryz.prog 103 #[.pointer (some ⟨B,0,none⟩),.int .u64 x,.int .i64 size] w (UW w B v (bs++le x size)):=by
 obtain ⟨i0,hi,hz0,hz1,hz2⟩:=info_parts XW
 have HX:=z8 hx
 clear hx
 go_enter Tryz.func103,Tryz.ntmps103
 go_wp2
 go_loopw [9] (fun c wr=>∃ k:Nat,k≤size∧c=.int .i64 k∧jW w B v (bs++le x k) wr) (fun c _=>size - (intOf c).toNat)
 case atStart=>exact ⟨0,Nat.zero_le _,rfl,by simpa [le] using jW.start h⟩
 case round =>
  obtain ⟨k,hk,rfl,v1,hw1,ho1,ht1⟩:=hrel
  have hc:=hw1.cell
  have hf:=hw1.free
  have hca:∀ o,(wr.alloc o).cell? ⟨B,0,none⟩=some v1:=fun o=>(World.cell?_alloc_lt wr o _ hw1.lt).trans hc
  have HW:=z8 hw1
  have HT:=z8 ht1
  have HO:=z8 ho1
  clear hw1 ht1 ho1
  by_cases hlt:k<size
  ·
   obtain ⟨b,HB⟩:∃ b,Hid (b=UInt8.ofNat (x / 256 ^ k)):=⟨_,rfl⟩
   have hll:=zQ x k
   have hsh:=shr_byte x k
   have hcv:=FW (x / 256 ^ k)
   rw [← HB.out] at hcv
   have hmul:IntKind.i64.wrap (8 * (k:Int))=8 * (k:Int):=IntWalk.i64_in _ (by omega)
   generalize x / 256 ^ k=q at hsh hcv
   go_wp2
   go_region_law ((refine Zh _ (by rfl) (.tmp 16) (.tmp 22) 22 22 (by rfl) 5 i0 _ 1 1 Tryz.underlying22 hi hz0 hz1 hz2 rfl v1 (bs++le x k).length (cellsOf (bs++le x k)) (by rfl) ((HW.out.2.alloc _).drew) (.slice (some ⟨wr.heap.size,0,none⟩) 1 1) 1 (cellsOf [b]) (by rfl) (src_one wr b) (by simp [maxLen,hll]; omega) (by simp [hll]; omega) ?_; intro A2 c2 w2 ho2 hg2 ha2; obtain ⟨hc2,hf2⟩:=HW.out.after (((zb.refl _ _).alloc _).drew) hg2))
   all_goals
    have e2:(bs++le x k).length+1=bs.length+k+1:=by simp [hll]
    rw [e2] at ho2 ha2
    have R:jW w B v (bs++le x (k+1)) (w2.setCell ⟨B,0,none⟩ (.slice A2 (bs.length+k+1) c2)):=by
     have hp:=jW.put HW.out (((zb.refl _ _).alloc _).drew) (by simp [hll]; omega) ho2 hg2 ha2
     rw [List.append_assoc,show le x k++[b]=le x (k+1) from by rw [le,HB.out]] at hp
     exact jW.next HO.out HT.out hp
    clear ho2 hg2 ha2 hc2 hf2 e2 hcv hsh hmul hll HB HW HT HO hc hf hca
    have hR:=z8 R
    clear R
    go_wp2
    go_roundw
    case rel=>exact ⟨k+1,by omega,by go_num,hR.out⟩
    case measure=>simp [intOf]; omega
  ·
   obtain rfl:k=size:=by omega
   go_wp2
   go_ret
   exact ⟨rfl,_,HW.out,HO.out,HT.out⟩

theorem U2 (B:Nat) (v:Value) (bs:List UInt8) (xi si:Int) (x size:Nat) (w:World) (h:Wtr w B v bs) (ex:xi=x) (es:si=size) (hx:x<18446744073709551616) (hsize:size≤8) (hroom:bs.length+8≤1099511627776) :
  Calls Tryz.prog 103 #[.pointer (some ⟨B,0,none⟩),.int .u64 xi,.int .i64 si] w (UW w B v (bs++le x size)):=by
 subst ex
 subst es
 exact U1 B v bs x size w h hx hsize hroom
set_option maxRecDepth 100000 in
theorem Xh (B:Nat) (v:Value) (bs:List UInt8) (x:Nat) (w:World) (h:Wtr w B v bs) (hx:x<256) (hroom:bs.length+8≤1099511627776) :
  Calls Tryz.prog 36 #[.pointer (some ⟨B,0,none⟩),.int .u8 x] w (UW w B v (bs++le x 1)):=by
 go_enter Tryz.func36,Tryz.ntmps36
 go_wp2_with fail
 with_reducible refine (U2 B v bs _ _ x 1 w h (by simp) (by simp) (by omega) (by omega) hroom).mono ?_
 rintro e w' ⟨rfl,hw⟩
 go_wp2
 go_ret
 exact ⟨rfl,hw⟩
set_option maxRecDepth 100000 in
theorem jw (B:Nat) (v:Value) (bs:List UInt8) (x:Nat) (w:World) (h:Wtr w B v bs) (hx:x<65536) (hroom:bs.length+8≤1099511627776) :
  Calls Tryz.prog 37 #[.pointer (some ⟨B,0,none⟩),.int .u16 x] w (UW w B v (bs++le x 2)):=by
 go_enter Tryz.func37,Tryz.ntmps37
 go_wp2_with fail
 with_reducible refine (U2 B v bs _ _ x 2 w h (by simp) (by simp) (by omega) (by omega) hroom).mono ?_
 rintro e w' ⟨rfl,hw⟩
 go_wp2
 go_ret
 exact ⟨rfl,hw⟩
theorem two_at (B:Nat) (v:Value) (bs:List UInt8) (xi:Int) (x:Nat) (w:World) (h:Wtr w B v bs) (ex:xi=x) (hx:x<65536) (hroom:bs.length+8≤1099511627776) :
  Calls Tryz.prog 37 #[.pointer (some ⟨B,0,none⟩),.int .u16 xi] w (UW w B v (bs++le x 2)):=ex ▸ jw B v bs x w h hx hroom
set_option maxRecDepth 100000 in
theorem Q5 (B:Nat) (v:Value) (bs:List UInt8) (is:Bool) (w:World) (h:Wtr w B v bs) (hroom:bs.length+8≤1099511627776) :
  Calls Tryz.prog 106 #[.pointer (some ⟨B,0,none⟩),.bool is] w (UW w B v (bs++le is.toNat 1)):=by
 have hb:=fun (x:Nat) (xi:Int) (hx:x<256) (e:xi=x)=>e ▸ Xh B v bs x w h hx hroom
 have HB:=z8 hb
 clear hb
 cases is
 ·
  go_enter Tryz.func106,Tryz.ntmps106
  go_wp2_with fail
  with_reducible refine (HB.out 0 _ (by omega) (by simp)).mono ?_
  rintro e w' ⟨rfl,hw⟩
  go_wp2
  go_ret
  exact ⟨rfl,hw⟩
 ·
  go_enter Tryz.func106,Tryz.ntmps106
  go_wp2_with fail
  with_reducible refine (HB.out 1 _ (by omega) (by simp)).mono ?_
  rintro e w' ⟨rfl,hw⟩
  go_wp2
  go_ret
  exact ⟨rfl,hw⟩

set_option maxRecDepth 100000 in
theorem fc (B:Nat) (v:Value) (bs:List UInt8) (s:ByteArray) (w:World) (h:Wtr w B v bs) (hs:s.size≤65535) (hroom:bs.length+65545≤1099511627776) :
  Calls Tryz.prog 105 #[.pointer (some ⟨B,0,none⟩),.string s] w (UW w B v (bs++(le s.size 2++s.data.toList))):=by
 obtain ⟨i0,hi,hz0,hz1,hz2⟩:=info_parts XW
 go_enter Tryz.func105,Tryz.ntmps105
 go_wp2_with fail
 with_reducible refine (jw B v bs s.size w h (by omega) (by omega)).mono ?_
 rintro e w1 ⟨rfl,v1,hw1,ho1,ht1⟩
 have hc:=hw1.cell
 have hf:=hw1.free
 have hll:=zQ s.size 2
 have HW:=z8 hw1
 have HT:=z8 ht1
 have HO:=z8 ho1
 clear hw1 ht1 ho1
 go_wp2_with (at_builtin; refine xe _ rfl (.tmp 19) (.tmp 20) 22 9 (by rfl) 5 i0 _ 1 1 Tryz.underlying22 hi hz0 hz1 hz2 rfl v1 (bs++le s.size 2).length (cellsOf (bs++le s.size 2)) (by rfl) HW.out.2 (.string s) s.size (cellsOf s.data.toList) (by rfl) (Src.ofString _ Tryz.underlying9 s) (by simp [maxLen,hll]; omega) (by simp [hll]; omega) ?_; intro A2 c2 w2 ho2 hg2 ha2; obtain ⟨hc2,hf2⟩:=HW.out.after (zb.refl _ _) hg2)
 have e2:(bs++le s.size 2).length+s.size=bs.length+2+s.size:=by simp [hll]
 rw [e2] at ho2 ha2
 have R:jW w B v (bs++(le s.size 2++s.data.toList)) (w2.setCell ⟨B,0,none⟩ (.slice A2 (bs.length+2+s.size) c2)):=by
  have hp:=jW.put HW.out (zb.refl _ _) (by simp only [List.length_append,hll,yw]) ho2 hg2 ha2
  rw [List.append_assoc] at hp
  exact jW.next HO.out HT.out hp
 go_ret
 exact ⟨rfl,R⟩

def Fresh (w:World) (l:List UInt8) (e:Ending) (w':World):Prop :=
 ∃ v',e=.returned v'∧w'.ownsRow 0 5 1 v' l.length (cellsOf l)∧(∀ k,v'.ownBlock=some k→w.heap.size≤k)∧zb (fun _=>False) w w'

set_option maxRecDepth 100000 in
theorem Y0 (u:Value) (l:List UInt8) (w:World) (hu:Rd w u l) (hroom:l.length≤1099511627776) :
  Calls Tryz.prog 107 #[u] w (Fresh w l):=by
 obtain ⟨i0,hi,hz0,hz1,hz2⟩:=info_parts XW
 have HU:=z8 hu
 obtain ⟨A,c,rfl,hc⟩:=hu
 cases A with
 | none =>
  have hl:l=[]:=by
   by_cases hl:l=[]
   ·
    exact hl
   ·
    obtain ⟨ad,h,_⟩:=hc hl
    cases h
  subst hl
  clear hc HU
  have hnil:=fun W=>Lib.run_eql_slice_nil (P:=Tryz.prog) W 22 5 none 0 c 0 0 Tryz.underlying22
  go_enter Tryz.func107,Tryz.ntmps107
  go_wp2
  go_ret
  exact ⟨_,rfl,World.ownsRow_nil _ _ _ _,by simp [Value.ownBlock],zb.refl _ _⟩
 | some ad =>
  clear hc
  have hnil:=fun W=>Lib.run_eql_slice_nil (P:=Tryz.prog) W 22 5 (some ad) l.length c 0 0 Tryz.underlying22
  have hmade:(w.alloc (.cells #[] 5)).ownsRow 0 5 1 (.slice (some ⟨w.heap.size,0,none⟩) 0 0) 0 []:=World.ownsRow_made w #[] 0 (Nat.zero_le _) (Nat.zero_le _) rfl
  have HM:=z8 hmade
  clear hmade
  go_enter Tryz.func107,Tryz.ntmps107
  go_wp2_with (at_builtin; refine xe _ rfl (.tmp 5) (.tmp 6) 22 22 (by rfl) 5 i0 _ 1 1 Tryz.underlying22 hi hz0 hz1 hz2 rfl (.slice (some ⟨w.heap.size,0,none⟩) 0 0) 0 [] (by rfl) HM.out (.slice (some ad) l.length c) l.length (cellsOf l) (by rfl) ((HU.out.still ((zb.refl _ _).alloc _)).src Tryz.underlying22) (by simp only [maxLen]; omega) (by omega) ?_; intro A2 c2 w2 ho2 hg2 ha2)
  rw [Nat.zero_add] at ho2 ha2
  go_ret
  refine ⟨_,by simp,ho2,?_,?_⟩
  ·
   intro k hk
   rcases ha2 with h2 | h2
   ·
    rw [h2] at hk
    simp [Value.ownBlock] at hk
    omega
   ·
    rw [h2] at hk
    simp at hk
    omega
  ·
   exact ((zb.refl _ _).alloc _).grown hg2 (fun k hk hlt=>by simp [Value.ownBlock] at hk; omega)

set_option maxRecDepth 100000 in
theorem QW (B:Nat) (v:Value) (bs:List UInt8) (w:World) (h:Wtr w B v bs) (hroom:bs.length≤1099511627776) :
  Calls Tryz.prog 39 #[.pointer (some ⟨B,0,none⟩)] w (Fresh w bs):=by
 have hc:=h.cell
 have HR:=z8 (Rd.of_own h.2)
 clear h
 go_enter Tryz.func39,Tryz.ntmps39
 go_wp2_with fail
 with_reducible refine (Y0 v bs w HR.out hroom).mono ?_
 rintro e w1 ⟨v1,rfl,ho,hb,ht⟩
 obtain ⟨A,c,rfl⟩:=yD ho
 have HO:=z8 ho
 have HB:=z8 hb
 have HT:=z8 ht
 clear ho hb ht
 go_wp2
 go_ret
 exact ⟨_,rfl,HO.out,HB.out,HT.out⟩

def RdS (w:World) (A:Option Addr) (ss:List ByteArray):Prop :=
 ss≠[]→∃ b off,A=some ⟨b,off,none⟩∧b<w.heap.size∧∀ j (hj:j<ss.length),w.cell? ⟨b,off+j,none⟩=some (.string ss[j])
theorem RdS.turns {S:Nat→Prop} {w w':World} {A:Option Addr} {ss:List ByteArray} (h:RdS w A ss) (ht:zb S w w') (hn:ss≠[]→∀ a,A=some a→¬ S a.block):RdS w' A ss:=by
 intro hne
 obtain ⟨b,off,rfl,hb,hc⟩:=h hne
 exact ⟨b,off,rfl,Nat.lt_of_lt_of_le hb ht.size,fun j hj=>(ht.cell (p:=⟨b,off+j,none⟩) hb (hn hne ⟨b,off,none⟩ rfl)).trans (hc j hj)⟩

def zo (s:ByteArray):List UInt8:=le s.size 2++s.data.toList
def zL (ss:List ByteArray):List UInt8:=ss.flatMap zo
theorem yE (s:ByteArray):(zo s).length=s.size+2:=by
 simp only [zo,List.length_append,zQ,yw]; omega
theorem Ze (ss:List ByteArray) (k:Nat) (hk:k<ss.length):zL (ss.take (k+1))=zL (ss.take k)++zo ss[k]:=by
 unfold zL
 rw [List.take_succ_eq_append_getElem hk,List.flatMap_append,List.flatMap_singleton]
theorem Xu (ss:List ByteArray) (h:∀ s∈ss,s.size≤65535):(zL ss).length≤65537 * ss.length:=by
 induction ss with
 | nil=>simp [zL]
 | cons s ss ih =>
  have h1:=ih (fun t ht=>h t (List.mem_cons_of_mem _ ht))
  have h2:=h s (List.mem_cons_self ..)
  have h3:(zL (s::ss)).length=(zo s).length+(zL ss).length:=by simp [zL]
  rw [h3,yE,List.length_cons]
  omega
theorem xF (ss:List ByteArray) (k:Nat) (h:∀ s∈ss,s.size≤65535) (hk:k≤65535):(zL (ss.take k)).length≤4294967295:=by
 have:=Xu (ss.take k) (fun s hs=>h s (List.mem_of_mem_take hs))
 have h2:(ss.take k).length≤k:=List.length_take_le _ _
 omega
def xR (ss:List ByteArray):List UInt8:=le ss.length 2++zL ss

set_option maxRecDepth 100000 in
theorem VH (B:Nat) (v:Value) (bs:List UInt8) (A:Option Addr) (N c:Nat) (ss:List ByteArray) (w:World) (h:Wtr w B v bs) (hc:N≤c) (hm:c≤9223372036854775807)
  (hN:ss.length=min N 65535) (hr:RdS w A ss) (hA:ss≠[]→∀ a,A=some a→¬ (a.block=B∨v.ownBlock=some a.block)) (hs:∀ s∈ss,s.size≤65535) (hroom:bs.length≤549755813888) :
  Calls Tryz.prog 46 #[.pointer (some ⟨B,0,none⟩),.slice A N c] w (UW w B v (bs++xR ss)):=by
 have HS:=z8 hs
 have hN1:ss.length≤65535:=by omega
 have hAt:∀ k,k<ss.length→∀ w',jW w B v (bs++(le ss.length 2++zL (ss.take k))) w'→∃ (b off:Nat) (t:ByteArray),A=some ⟨b,off,none⟩∧w'.cell? ⟨b,off+k,none⟩=some (.string t)∧t.size≤65535∧zL (ss.take (k+1))=zL (ss.take k)++zo t:=by
  intro k hk w' hw
  obtain ⟨v',_,_,ht⟩:=hw
  obtain ⟨b,off,rfl,hb,hcell⟩:=hr.turns ht hA (by intro e; subst e; simp at hk)
  exact ⟨b,off,ss[k],rfl,hcell k hk,hs _ (List.getElem_mem hk),Ze ss k hk⟩
 have HAt:=z8 hAt
 clear hr hA hs hAt
 have fin:∀ w',jW w B v (bs++(le ss.length 2++zL (ss.take ss.length))) w'→jW w B v (bs++xR ss) w':=by
  intro w' h
  rwa [List.take_length] at h
 have HF:=z8 fin
 clear fin
 rcases Nat.lt_or_ge 65535 N with hl | hl
 ·
  have hn:ss.length=65535:=by omega
  clear hN
  generalize ss.length=n at *
  have HM:=z8 hn
  clear hn
  go_enter Tryz.func46,Tryz.ntmps46
  go_wp2_with fail
  with_reducible refine (two_at B v bs _ n w h (by rw [HM.out]; simp) (by rw [HM.out]; omega) (by omega)).mono ?_
  rintro e w1 ⟨rfl,hw1⟩
  have HW1:=z8 hw1
  clear hw1
  go_wp2
  have e1:(65535:Nat)=n:=HM.out.symm
  have e2:(65535:Int)=(n:Int):=by rw [HM.out]; simp
  rw [e1,e2]
  clear e1 e2
  go_loopw [19] (fun i wr=>∃ k:Nat,k≤n∧i=.int .i64 k∧jW w B v (bs++(le n 2++zL (ss.take k))) wr) (fun i _=>n - (intOf i).toNat)
  case atStart=>exact ⟨0,Nat.zero_le _,rfl,by simpa [zL] using HW1.out⟩
  case round =>
   obtain ⟨k,hk,rfl,hwr⟩:=hrel
   by_cases hlt:k<n
   ·
    obtain ⟨b,off,t,rfl,hcell,ht,hsn⟩:=HAt.out k hlt wr hwr
    have hlen:(zL (ss.take k)).length≤4294967295:=xF ss k HS.out (by omega)
    have HSN:=z8 hsn
    have HL:=z8 hlen
    obtain ⟨v1,hv1,ho1,ht1⟩:=hwr
    have HV:=z8 hv1
    have HO:=z8 ho1
    have HT:=z8 ht1
    clear hsn hlen hv1 ho1 ht1 HAt HF
    go_wp2_with fail
    have hll:=zQ n 2
    have hlb:=HL.out
    have hrm:(bs++(le n 2++zL (ss.take k))).length+65545≤1099511627776:=by simp only [List.length_append,hll]; omega
    have HRM:=z8 hrm
    have HTS:=z8 ht
    clear hrm
    with_reducible refine (fc B v1 _ t wr HV.out HTS.out HRM.out).mono ?_
    rintro e w2 ⟨rfl,hw2⟩
    have R:jW w B v (bs++(le n 2++zL (ss.take (k+1)))) w2:=by
     have:=jW.next HO.out HT.out hw2
     rw [HSN.out]
     simpa [zo,List.append_assoc] using this
    have HR:=z8 R
    clear R hw2 hll hlb hcell
    go_wp2
    go_roundw
    case rel=>exact ⟨k+1,by omega,by go_num,HR.out⟩
    case measure=>simp [intOf]; omega
   ·
    obtain rfl:k=n:=by omega
    have hfin:=HF.out wr hwr
    have HFN:=z8 hfin
    clear hfin hwr
    go_wp2
    go_ret
    exact ⟨rfl,HFN.out⟩
 ·
  obtain rfl:ss.length=N:=by omega
  clear hN
  generalize ss.length=n at *
  go_enter Tryz.func46,Tryz.ntmps46
  go_wp2_with fail
  with_reducible refine (jw B v bs n w h (by omega) (by omega)).mono ?_
  rintro e w1 ⟨rfl,hw1⟩
  have HW1:=z8 hw1
  clear hw1
  go_wp2
  go_loopw [19] (fun i wr=>∃ k:Nat,k≤n∧i=.int .i64 k∧jW w B v (bs++(le n 2++zL (ss.take k))) wr) (fun i _=>n - (intOf i).toNat)
  case atStart=>exact ⟨0,Nat.zero_le _,rfl,by simpa [zL] using HW1.out⟩
  case round =>
   obtain ⟨k,hk,rfl,hwr⟩:=hrel
   by_cases hlt:k<n
   ·
    obtain ⟨b,off,t,rfl,hcell,ht,hsn⟩:=HAt.out k hlt wr hwr
    have hlen:(zL (ss.take k)).length≤4294967295:=xF ss k HS.out (by omega)
    have HSN:=z8 hsn
    have HL:=z8 hlen
    obtain ⟨v1,hv1,ho1,ht1⟩:=hwr
    have HV:=z8 hv1
    have HO:=z8 ho1
    have HT:=z8 ht1
    clear hsn hlen hv1 ho1 ht1 HAt HF
    go_wp2_with fail
    have hll:=zQ n 2
    have hlb:=HL.out
    have hrm:(bs++(le n 2++zL (ss.take k))).length+65545≤1099511627776:=by simp only [List.length_append,hll]; omega
    have HRM:=z8 hrm
    have HTS:=z8 ht
    clear hrm
    with_reducible refine (fc B v1 _ t wr HV.out HTS.out HRM.out).mono ?_
    rintro e w2 ⟨rfl,hw2⟩
    have R:jW w B v (bs++(le n 2++zL (ss.take (k+1)))) w2:=by
     have:=jW.next HO.out HT.out hw2
     rw [HSN.out]
     simpa [zo,List.append_assoc] using this
    have HR:=z8 R
    clear R hw2 hll hlb hcell
    go_wp2
    go_roundw
    case rel=>exact ⟨k+1,by omega,by go_num,HR.out⟩
    case measure=>simp [intOf]; omega
   ·
    obtain rfl:k=n:=by omega
    have hfin:=HF.out wr hwr
    have HFN:=z8 hfin
    clear hfin hwr
    go_wp2
    go_ret
    exact ⟨rfl,HFN.out⟩

theorem Qt (x k:Nat):le x (k+1)=UInt8.ofNat x::le (x / 256) k:=by
 induction k with
 | zero=>simp [le]
 | succ k ih =>
  rw [le,ih]
  show _=UInt8.ofNat x::(le (x / 256) k++[UInt8.ofNat (x / 256 / 256 ^ k)])
  rw [Nat.div_div_eq_div_mul,← Nat.pow_succ']
  rfl
def val:List UInt8→Nat
 | []=>0
 | b::l=>b.toNat+256 * val l
theorem val_le (k:Nat):∀ x,val (le x k)=x % 256 ^ k:=by
 induction k with
 | zero=>intro x; simp [le,val,Nat.mod_one]
 | succ k ih =>
  intro x
  rw [Qt,val,ih,Nat.pow_succ',Nat.mod_mul]
  simp

structure St where
 bs:List UInt8
 e:Int

def fy (w:World) (g:Nat):Prop:=∃ cur fr,w.heap[g]? = some (.cells cur 5 fr)
theorem fy.keep {S:Nat→Prop} {w w':World} {g:Nat} (h:fy w g) (ht:zb S w w') (hn:¬ S g):fy w' g:=by
 obtain ⟨cur,fr,h⟩:=h
 exact ⟨cur,fr,(ht.block g (Array.getElem?_eq_some_iff.1 h).1 hn).trans h⟩
def RdR (w:World) (B:Nat) (v:Value) (l:List UInt8):Prop :=
 (v=.slice none 0 0∧l=[]) ∨
 ∃ g off c,v=.slice (some ⟨g,off,none⟩) l.length c∧l.length≤c∧c≤9223372036854775807∧g<w.heap.size∧g≠B∧fy w g∧∀ j (hj:j<l.length),w.cell? ⟨g,off+j,none⟩=some (.int .u8 (l[j].toNat:Int))

def Rdr (w:World) (B:Nat) (st:St):Prop:=∃ v,w.heap[B]? = some (.cells #[v,.int .i64 st.e] 232 (0,0))∧RdR w B v st.bs
def Did (w:World) (B:Nat) (st:St) (w':World):Prop:=Rdr w' B st∧zb (fun i=>i=B) w w'

theorem RdR.turns {w w':World} {B:Nat} {v:Value} {l:List UInt8} (h:RdR w B v l) (ht:zb (fun i=>i=B) w w'):RdR w' B v l:=by
 rcases h with h | ⟨g,off,c,rfl,h1,h2,h3,h4,hbk,h5⟩
 ·
  exact .inl h
 ·
  exact .inr ⟨g,off,c,rfl,h1,h2,Nat.lt_of_lt_of_le h3 ht.size,h4,hbk.keep ht h4,fun j hj=>(ht.cell (p:=⟨g,off+j,none⟩) h3 h4).trans (h5 j hj)⟩
theorem RdR.rd {w:World} {B:Nat} {v:Value} {l:List UInt8} (h:RdR w B v l):Rd w v l:=by
 rcases h with ⟨rfl,rfl⟩ | ⟨g,off,c,rfl,h1,h2,h3,h4,hbk,h5⟩
 ·
  exact ⟨none,0,rfl,fun h=>absurd rfl h⟩
 ·
  refine ⟨_,c,rfl,fun _=>⟨_,rfl,h3,fun j u hu=>?_⟩⟩
  have hj:j<l.length:=by have:=(List.getElem?_eq_some_iff.1 hu).1; rwa [ug] at this
  rw [Addr.add_lit,h5 j hj,← hu]
  simp [cellsOf,List.getElem?_eq_getElem hj]
theorem RdR.nil (w:World) (B:Nat):RdR w B (.slice none 0 0) []:=.inl ⟨rfl,rfl⟩

theorem Rdr.lt {w:World} {B:Nat} {st:St} (h:Rdr w B st):B<w.heap.size:=by
 obtain ⟨v,h,_⟩:=h
 exact (Array.getElem?_eq_some_iff.1 h).1
theorem Rdr.kept {S:Nat→Prop} {w w':World} {B:Nat} {st:St} (h:Rdr w B st) (ht:zb S w w') (hn:∀ k,¬ S k):Rdr w' B st:=by
 obtain ⟨v,h1,h2⟩:=h
 refine ⟨v,(ht.block B (Array.getElem?_eq_some_iff.1 h1).1 (hn B)).trans h1,?_⟩
 rcases h2 with h | ⟨g,off,c,rfl,h1,h2,h3,h4,hbk,h5⟩
 ·
  exact .inl h
 ·
  exact .inr ⟨g,off,c,rfl,h1,h2,Nat.lt_of_lt_of_le h3 ht.size,h4,hbk.keep ht (hn _),fun j hj=>(ht.cell (p:=⟨g,off+j,none⟩) h3 (hn _)).trans (h5 j hj)⟩
theorem Rdr.still {w w':World} {B:Nat} {st:St} (h:Rdr w B st) (ht:zb (fun _=>False) w w'):Rdr w' B st:=h.kept ht (fun _ f=>f)
theorem Did.refl {w:World} {B:Nat} {st:St} (h:Rdr w B st):Did w B st w:=⟨h,zb.refl _ _⟩
theorem Did.next {w w1 w2:World} {B:Nat} {st1 st2:St} (h:Did w B st1 w1) (k:Did w1 B st2 w2):Did w B st2 w2:=⟨k.1,h.2.next k.2 (fun _ _ h=>h)⟩

theorem Z2 {w:World} {B:Nat} {v v':Value} {e:Int} {l:List UInt8} (h:w.heap[B]? = some (.cells #[v,.int .i64 e] 232 (0,0))) (hr:RdR w B v' l):Did w B ⟨l,e⟩ (w.setCell ⟨B,0,none⟩ v'):=by
 have ht:zb (fun i=>i=B) w (w.setCell ⟨B,0,none⟩ v'):=(zb.refl (fun i=>i=B) w).setCell (p:=⟨B,0,none⟩) (fun _=>rfl) v'
 exact ⟨⟨v',by simp [World.setCell,Array.getElem?_modify,h],hr.turns ht⟩,ht⟩
theorem rdr_set1 {w:World} {B:Nat} {v:Value} {e e':Int} (h:w.heap[B]? = some (.cells #[v,.int .i64 e] 232 (0,0))):Did w B ⟨[],e'⟩ ((w.setCell ⟨B,1,none⟩ (.int .i64 e')).setCell ⟨B,0,none⟩ (.slice none 0 0)):=by
 have ht:zb (fun i=>i=B) w (w.setCell ⟨B,1,none⟩ (.int .i64 e')):=(zb.refl (fun i=>i=B) w).setCell (p:=⟨B,1,none⟩) (fun _=>rfl) _
 have h2:(w.setCell ⟨B,1,none⟩ (.int .i64 e')).heap[B]? = some (.cells #[v,.int .i64 e'] 232 (0,0)):=by simp [World.setCell,Array.getElem?_modify,h]
 have h3:=Z2 h2 (RdR.nil _ B)
 exact ⟨h3.1,ht.next h3.2 (fun _ _ h=>h)⟩

def zu (st:St) (e:Int):St:=if e=0∨st.e≠0 then st else ⟨[],e⟩
def zO (st:St) (n:Nat):St×List UInt8:=if st.bs.length<n then (zu st 2,[]) else (⟨st.bs.drop n,st.e⟩,st.bs.take n)

def Void (w:World) (B:Nat) (st:St) (e:Ending) (w':World):Prop:=e=.returned (.tuple #[])∧Did w B st w'

set_option maxRecDepth 100000 in
theorem xk (B:Nat) (st:St) (ei:Int) (w:World) (h:Rdr w B st) :
  Calls Tryz.prog 233 #[.pointer (some ⟨B,0,none⟩),.int .i64 ei] w (Void w B (zu st ei)):=by
 have HD:=z8 h
 obtain ⟨v,hb,_⟩:=h
 obtain ⟨l,e⟩:=st
 have c1:w.cell? ⟨B,1,none⟩=some (.int .i64 e):=by rw [cell_of_row w B 1 _ _ (0,0) hb]; rfl
 have c0:w.cell? ⟨B,0,none⟩=some v:=by rw [cell_of_row w B 0 _ _ (0,0) hb]; rfl
 have f1:∀ i,w.frozen? ⟨B,i,none⟩=false:=fun i=>by simp [World.frozen?,hb]
 have HB:=z8 hb
 clear hb
 by_cases h0:ei=0
 ·
  have HF:Hid (zu ⟨l,e⟩ ei=⟨l,e⟩):=by simp [zu,h0,Hid]
  rw [HF.out]
  subst h0
  go_enter Tryz.func233,Tryz.ntmps233
  go_wp2
  refine bodyPost_ret (results_none rfl _ _ _) rfl ?_
  exact ⟨rfl,Did.refl HD.out⟩
 ·
  have d0:(ei == 0)=false:=by simpa using h0
  by_cases h1:e=0
  ·
   have HF:Hid (zu ⟨l,e⟩ ei=⟨[],ei⟩):=by simp [zu,h0,h1,Hid]
   rw [HF.out]
   subst h1
   have HS:=z8 (rdr_set1 (e':=ei) HB.out)
   go_enter Tryz.func233,Tryz.ntmps233
   go_wp2
   go_end0
   exact ⟨rfl,HS.out⟩
  ·
   have HF:Hid (zu ⟨l,e⟩ ei=⟨l,e⟩):=by simp [zu,h1,Hid]
   rw [HF.out]
   have d1:(e != 0)=true:=by simpa using h1
   go_enter Tryz.func233,Tryz.ntmps233
   go_wp2
   refine bodyPost_ret (results_none rfl _ _ _) rfl ?_
   exact ⟨rfl,Did.refl HD.out⟩

def Took (w:World) (B:Nat) (st:St) (l:List UInt8) (e:Ending) (w':World):Prop:=∃ v,e=.returned v∧RdR w' B v l∧Did w B st w'

theorem RdR.shape {w:World} {B:Nat} {v:Value} {l:List UInt8} (h:RdR w B v l):∃ A c,v=.slice A l.length c:=by
 rcases h with ⟨rfl,rfl⟩ | ⟨g,off,c,rfl,_⟩
 ·
  exact ⟨none,0,rfl⟩
 ·
  exact ⟨_,c,rfl⟩
theorem RdR.cut {w:World} {B g off c n:Nat} {l:List UInt8} (h2:c≤9223372036854775807) (h3:g<w.heap.size) (h4:g≠B) (hbk:fy w g)
  (h5:∀ j (hj:j<l.length),w.cell? ⟨g,off+j,none⟩=some (.int .u8 (l[j].toNat:Int))) (hn:n≤l.length) (off' c' n':Nat) (hc:n'≤c') (hcc:c'≤c) (hn':n'=l.length - n) (ho:n'=0∨off'=off+n) :
  RdR w B (.slice (some ⟨g,off',none⟩) n' c') (l.drop n):=by
 refine .inr ⟨g,off',c',by rw [List.length_drop,hn'],by rw [List.length_drop]; omega,by omega,h3,h4,hbk,fun j hj=>?_⟩
 rw [List.length_drop] at hj
 have he:off'=off+n:=by omega
 rw [he,Nat.add_assoc,h5 (n+j) (by omega)]
 simp
theorem RdR.head {w:World} {B g off c n:Nat} {l:List UInt8} (h1:l.length≤c) (h2:c≤9223372036854775807) (h3:g<w.heap.size) (h4:g≠B) (hbk:fy w g)
  (h5:∀ j (hj:j<l.length),w.cell? ⟨g,off+j,none⟩=some (.int .u8 (l[j].toNat:Int))) (hn:n≤l.length) :
  RdR w B (.slice (some ⟨g,off,none⟩) n c) (l.take n):=by
 have hl:(l.take n).length=n:=by rw [List.length_take]; omega
 refine .inr ⟨g,off,c,by rw [hl],by omega,h2,h3,h4,hbk,fun j hj=>?_⟩
 rw [h5 j (by omega)]
 simp

set_option maxRecDepth 100000 in
theorem X0 (B:Nat) (st:St) (n:Nat) (w:World) (h:Rdr w B st) (hl:st.bs.length≤1099511627776) (hn:n≤9223372036854775807) :
  Calls Tryz.prog 256 #[.pointer (some ⟨B,0,none⟩),.int .i64 n] w (Took w B (zO st n).1 (zO st n).2):=by
 have HD:=z8 h
 obtain ⟨v,hb,hr⟩:=h
 have c1:w.cell? ⟨B,1,none⟩=some (.int .i64 st.e):=by rw [cell_of_row w B 1 _ _ (0,0) hb]; rfl
 have c0:w.cell? ⟨B,0,none⟩=some v:=by rw [cell_of_row w B 0 _ _ (0,0) hb]; rfl
 have f1:∀ i,w.frozen? ⟨B,i,none⟩=false:=fun i=>by simp [World.frozen?,hb]
 have HB:=z8 hb
 clear hb
 by_cases hs:st.bs.length<n
 ·
  have HT:Hid (zO st n=(zu st 2,[])):=by simp [zO,hs,Hid]
  rw [HT.out]
  obtain ⟨A,c,rfl⟩:=hr.shape
  clear hr
  generalize st.bs.length=m at *
  go_enter Tryz.func256,Tryz.ntmps256
  go_wp2_with fail
  with_reducible refine (xk B st 2 w HD.out).mono ?_
  rintro e w1 ⟨rfl,hd⟩
  have HX:=z8 hd
  clear hd
  go_wp2
  go_ret
  exact ⟨_,rfl,RdR.nil _ _,HX.out⟩
 ·
  have HT:Hid (zO st n=(⟨st.bs.drop n,st.e⟩,st.bs.take n)):=by simp [zO,hs,Hid]
  rw [HT.out]
  rcases hr with ⟨rfl,hbs⟩ | ⟨g,off,c,rfl,h1,h2,h3,h4,hbk,h5⟩
  ·
   have hn0:n=0:=by rw [hbs] at hs; simp at hs; exact hs
   subst hn0
   have HS:=z8 (Z2 HB.out (RdR.nil w B))
   have HE:Hid (st.bs=[]):=hbs
   clear hbs hs hl
   go_enter Tryz.func256,Tryz.ntmps256
   go_wp2
   go_ret
   rw [HE.out]
   exact ⟨_,rfl,RdR.nil _ _,HS.out⟩
  ·
   have hle:n≤st.bs.length:=by omega
   have HH:=z8 (RdR.head h1 h2 h3 h4 hbk h5 hle)
   by_cases hcn:c=n
   ·
    subst hcn
    have hc0:RdR w B (.slice (some ⟨g,off,none⟩) 0 0) (st.bs.drop c):=RdR.cut h2 h3 h4 hbk h5 hle off 0 0 (by omega) (by omega) (by omega) (by omega)
    have HS:=z8 (Z2 HB.out hc0)
    clear hc0 h5 hs hbk
    generalize st.bs.length=m at *
    go_enter Tryz.func256,Tryz.ntmps256
    go_wp2
    go_ret
    exact ⟨_,rfl,HH.out.turns HS.out.2,HS.out⟩
   ·
    have hc0:RdR w B (.slice (some ⟨g,off+n,none⟩) (st.bs.length - n) (c - n)) (st.bs.drop n):=RdR.cut h2 h3 h4 hbk h5 hle (off+n) (c - n) _ (by omega) (by omega) rfl (by omega)
    have HS:=z8 (Z2 HB.out hc0)
    clear hc0 h5 hs hbk
    generalize st.bs.length=m at *
    go_enter Tryz.func256,Tryz.ntmps256
    go_wp2
    go_ret
    exact ⟨_,rfl,HH.out.turns HS.out.2,HS.out⟩
theorem J7:∀ l:List UInt8,val l<256 ^ l.length
 | []=>by simp [val]
 | b::l=>by
  have h1:=J7 l
  have h2:b.toNat<256:=b.toNat_lt
  rw [val,List.length_cons,Nat.pow_succ]
  omega
theorem val_snoc (l:List UInt8) (b:UInt8):val (l++[b])=val l+256 ^ l.length * b.toNat:=by
 induction l with
 | nil=>simp [val]
 | cons c l ih =>
  simp only [List.cons_append,val,ih,List.length_cons,Nat.pow_succ]
  rw [Nat.mul_add,Nat.add_assoc,← Nat.mul_assoc,Nat.mul_comm 256 (256 ^ l.length)]
theorem pow_le8 (k:Nat) (h:k≤8):256 ^ k≤18446744073709551616:=by
 have:256 ^ k≤256 ^ 8:=Nat.pow_le_pow_right (by omega) h
 simpa using this
theorem or_step (x c k:Nat) (hx:x<256 ^ k) (hc:c<256) (hk:k<8) :
  bits .or .u64 (x:Int) (IntKind.u64.wrap ((c:Int) * 2 ^ (8 * k)))=((x+256 ^ k * c:Nat):Int):=by
 have h1:256 ^ k * c<256 ^ (k+1):=by rw [Nat.pow_succ]; exact Nat.mul_lt_mul_of_pos_left hc (Nat.pow_pos (by omega))
 have h2:=pow_le8 (k+1) (by omega)
 have h3:=pow_le8 k (by omega)
 have e1:(c:Int) * 2 ^ (8 * k)=((256 ^ k * c:Nat):Int):=by
  rw [Int.natCast_mul,Int.natCast_pow,Int.mul_comm,Int.pow_mul]
  rfl
 rw [e1,show IntKind.u64.wrap ((256 ^ k * c:Nat):Int)=((256 ^ k * c:Nat):Int) by rw [IntKind.wrap_u64]; omega,u64_or_nat _ _ (by omega) (by omega)]
 have e2:256 ^ k=2 ^ (8 * k):=by rw [Nat.pow_mul]
 rw [e2] at hx ⊢
 rw [Nat.add_comm,Nat.two_pow_add_eq_or_of_lt hx,Nat.or_comm]

def zt (st:St) (size:Nat):St×Nat:=((zO st size).1,val (zO st size).2)
def Numb (k:IntKind) (w:World) (B:Nat) (st:St) (x:Int) (e:Ending) (w':World):Prop:=e=.returned (.int k x)∧Did w B st w'

theorem uW (st:St) (n:Nat):(zO st n).2.length≤n:=by
 unfold zO
 split
 ·
  simp
 ·
  simp only [List.length_take]; omega
theorem vn (st:St) (n:Nat):(zt st n).2<256 ^ n :=
 Nat.lt_of_lt_of_le (J7 _) (Nat.pow_le_pow_right (by omega) (uW st n))

theorem RdR.at_ {w:World} {B:Nat} {v:Value} {l:List UInt8} (h:RdR w B v l) (k:Nat) (hk:k<l.length):∃ g off c,v=.slice (some ⟨g,off,none⟩) l.length c∧w.cell? ⟨g,off+k,none⟩=some (.int .u8 (l[k].toNat:Int)):=by
 rcases h with ⟨rfl,rfl⟩ | ⟨g,off,c,rfl,_,_,_,_,_,h5⟩
 ·
  simp at hk
 ·
  exact ⟨g,off,c,rfl,h5 k hk⟩

set_option maxRecDepth 100000 in
theorem XA (B:Nat) (st:St) (size:Nat) (w:World) (h:Rdr w B st) (hl:st.bs.length≤1099511627776) (hn:size≤8) :
  Calls Tryz.prog 255 #[.pointer (some ⟨B,0,none⟩),.int .i64 size] w (Numb .u64 w B (zt st size).1 (zt st size).2):=by
 have hlen:=uW st size
 have HN:=z8 (X0 B st size w h hl (by omega))
 obtain ⟨l,hll⟩:∃ l,l=(zO st size).2:=⟨_,rfl⟩
 have hl2:l.length≤8:=by rw [hll]; omega
 have HV:Hid ((zt st size).2=val l):=by rw [hll]; rfl
 rw [HV.out]
 rw [← hll] at HN
 clear hll hlen
 go_enter Tryz.func255,Tryz.ntmps255
 go_wp2_with fail
 with_reducible refine HN.out.mono ?_
 rintro e w1 ⟨v,rfl,hr,hd⟩
 have HR:=z8 hr
 have HD:=z8 hd
 obtain ⟨A,c,rfl⟩:=hr.shape
 clear hr hd HN
 go_wp2
 go_loop [5,12] (fun x i=>∃ k:Nat,k≤l.length∧i=.int .i64 k∧x=.int .u64 (val (l.take k))) (fun _ i=>l.length - (intOf i).toNat)
 case atStart=>exact ⟨0,Nat.zero_le _,rfl,by simp [val]⟩
 case round =>
  obtain ⟨k,hk,rfl,rfl⟩:=hrel
  by_cases hlt:k<l.length
  ·
   obtain ⟨g,off,c',hv,hcell⟩:=HR.out.at_ k hlt
   have hvs:=val_snoc (l.take k) l[k]
   rw [← List.take_succ_eq_append_getElem hlt,List.length_take,Nat.min_eq_left hk] at hvs
   have hxl:val (l.take k)<256 ^ k:=by have:=J7 (l.take k); rwa [List.length_take,Nat.min_eq_left hk] at this
   have hor:=or_step (val (l.take k)) l[k].toNat k hxl l[k].toNat_lt (by omega)
   rw [← hvs] at hor
   have hmul:IntKind.i64.wrap (8 * (k:Int))=8 * (k:Int):=IntWalk.i64_in _ (by omega)
   injection hv with hA _ hc
   subst hA
   subst hc
   have hcb:(l[k].toNat:Int)<256:=by have:=l[k].toNat_lt; omega
   obtain ⟨y,hy⟩:∃ y,y=val (l.take (k+1)):=⟨_,rfl⟩
   rw [← hy] at hor
   have HY:=z8 hy
   clear hvs hxl hy
   generalize l[k]=b at hcell hor hcb
   go_wp2
   go_round
   case rel=>exact ⟨k+1,by omega,by go_num,by rw [← HY.out]⟩
   case measure=>simp [intOf]; omega
  ·
   obtain rfl:k=l.length:=by omega
   have HE:Hid (val (l.take l.length)=val l):=by rw [List.take_length]; exact rfl
   rw [HE.out]
   go_wp2
   go_ret
   exact ⟨rfl,HD.out⟩

theorem Did.rdr {w:World} {B:Nat} {st:St} {w':World} (h:Did w B st w'):Rdr w' B st:=h.1
theorem YP (B:Nat) (st:St) (si:Int) (size:Nat) (w:World) (h:Rdr w B st) (hl:st.bs.length≤1099511627776) (e:si=size) (hn:size≤8) :
  Calls Tryz.prog 255 #[.pointer (some ⟨B,0,none⟩),.int .i64 si] w (Numb .u64 w B (zt st size).1 (zt st size).2):=e ▸ XA B st size w h hl hn

set_option maxRecDepth 100000 in
theorem qZ (B:Nat) (st:St) (w:World) (h:Rdr w B st) (hl:st.bs.length≤1099511627776) :
  Calls Tryz.prog 232 #[.pointer (some ⟨B,0,none⟩)] w (Numb .u8 w B (zt st 1).1 (zt st 1).2):=by
 have hx:(zt st 1).2<256:=vn st 1
 have HN:=z8 (fun si e=>YP B st si 1 w h hl e (by omega))
 generalize (zt st 1).2=x at *
 go_enter Tryz.func232,Tryz.ntmps232
 go_wp2_with fail
 with_reducible refine (HN.out _ (by simp)).mono ?_
 rintro e w1 ⟨rfl,hd⟩
 have HD:=z8 hd
 clear hd
 go_wp2
 go_ret
 exact ⟨rfl,HD.out⟩
set_option maxRecDepth 100000 in
theorem ff (B:Nat) (st:St) (w:World) (h:Rdr w B st) (hl:st.bs.length≤1099511627776) :
  Calls Tryz.prog 237 #[.pointer (some ⟨B,0,none⟩)] w (Numb .u16 w B (zt st 2).1 (zt st 2).2):=by
 have hx:(zt st 2).2<65536:=vn st 2
 have HN:=z8 (fun si e=>YP B st si 2 w h hl e (by omega))
 generalize (zt st 2).2=x at *
 go_enter Tryz.func237,Tryz.ntmps237
 go_wp2_with fail
 with_reducible refine (HN.out _ (by simp)).mono ?_
 rintro e w1 ⟨rfl,hd⟩
 have HD:=z8 hd
 clear hd
 go_wp2
 go_ret
 exact ⟨rfl,HD.out⟩
theorem yI (st:St) (e:Int):(zu st e).bs.length≤st.bs.length:=by
 unfold zu; split <;> simp
theorem YG (st:St) (n:Nat):(zO st n).1.bs.length≤st.bs.length:=by
 unfold zO
 split
 ·
  exact yI _ _
 ·
  simp
theorem yf (st:St) (n:Nat):(zt st n).1.bs.length≤st.bs.length:=YG st n

def Truly (w:World) (B:Nat) (st:St) (b:Bool) (e:Ending) (w':World):Prop:=e=.returned (.bool b)∧Did w B st w'
def yj (st:St):St×Bool:=if 1<(zt st 1).2 then (zu (zt st 1).1 4,false) else ((zt st 1).1,(zt st 1).2 == 1)

set_option maxRecDepth 100000 in
theorem VD (B:Nat) (st:St) (w:World) (h:Rdr w B st) (hl:st.bs.length≤1099511627776) :
  Calls Tryz.prog 257 #[.pointer (some ⟨B,0,none⟩)] w (Truly w B (yj st).1 (yj st).2):=by
 have hx:(zt st 1).2<256:=vn st 1
 have HN:=z8 (qZ B st w h hl)
 have HT:Hid (yj st=if 1<(zt st 1).2 then (zu (zt st 1).1 4,false) else ((zt st 1).1,(zt st 1).2 == 1)):=rfl
 rw [HT.out]
 clear HT
 generalize (zt st 1).2=x at *
 generalize (zt st 1).1=s1 at *
 by_cases h1:1<x
 ·
  rw [if_pos h1]
  have d1:((x:Int) == 1)=false:=by simp; omega
  go_enter Tryz.func257,Tryz.ntmps257
  go_wp2_with fail
  with_reducible refine HN.out.mono ?_
  rintro e w1 ⟨rfl,hd⟩
  have HD:=z8 hd
  clear hd HN
  have HR:=z8 HD.out.rdr
  go_wp2_with fail
  with_reducible refine (xk B s1 4 w1 HR.out).mono ?_
  rintro e w2 ⟨rfl,hd⟩
  have HD2:=z8 (HD.out.next hd)
  clear hd
  go_wp2
  go_ret
  exact ⟨rfl,HD2.out⟩
 ·
  rw [if_neg h1]
  have HX:Hid (Value.bool ((x:Int) == 1)=Value.bool (x == 1)):=by
   show Value.bool ((x:Int) == 1)=Value.bool (x == 1)
   congr 1
   rw [Bool.eq_iff_iff,beq_iff_eq,beq_iff_eq]
   omega
  go_enter Tryz.func257,Tryz.ntmps257
  go_wp2_with fail
  with_reducible refine HN.out.mono ?_
  rintro e w1 ⟨rfl,hd⟩
  have HD:=z8 hd
  clear hd HN
  go_wp2
  go_ret
  exact ⟨by rw [← HX.out]; rfl,HD.out⟩

def zi (st:St) (most:Int):St×Nat:=if max most 0<((zt st 2).2:Int) then (zu (zt st 2).1 3,0) else ((zt st 2).1,(zt st 2).2)
theorem X6 (st:St) (most:Int):(zi st most).2<65536:=by
 have:(zt st 2).2<65536:=vn st 2
 unfold zi; split <;> simp <;> omega
theorem xx (st:St) (most:Int):(zi st most).1.bs.length≤st.bs.length:=by
 unfold zi
 split
 ·
  exact Nat.le_trans (yI _ _) (yf st 2)
 ·
  exact yf st 2

set_option maxRecDepth 100000 in
theorem jB (B:Nat) (st:St) (most:Int) (w:World) (h:Rdr w B st) (hl:st.bs.length≤1099511627776) :
  Calls Tryz.prog 234 #[.pointer (some ⟨B,0,none⟩),.int .i64 most] w (Numb .i64 w B (zi st most).1 (zi st most).2):=by
 have hx:(zt st 2).2<65536:=vn st 2
 have HN:=z8 (ff B st w h hl)
 have HT:Hid (zi st most=if max most 0<((zt st 2).2:Int) then (zu (zt st 2).1 3,0) else ((zt st 2).1,(zt st 2).2)):=rfl
 rw [HT.out]
 clear HT
 generalize (zt st 2).2=x at *
 generalize (zt st 2).1=s1 at *
 by_cases h1:max most 0<(x:Int)
 ·
  rw [if_pos h1]
  go_enter Tryz.func234,Tryz.ntmps234
  go_wp2_with fail
  with_reducible refine HN.out.mono ?_
  rintro e w1 ⟨rfl,hd⟩
  have HD:=z8 hd
  clear hd HN
  have HR:=z8 HD.out.rdr
  go_wp2_with fail
  all_goals
   with_reducible refine (xk B s1 3 w1 HR.out).mono ?_
   rintro e w2 ⟨rfl,hd⟩
   have HD2:=z8 (HD.out.next hd)
   clear hd
   go_wp2
   go_ret
   exact ⟨rfl,HD2.out⟩
 ·
  rw [if_neg h1]
  go_enter Tryz.func234,Tryz.ntmps234
  go_wp2_with fail
  with_reducible refine HN.out.mono ?_
  rintro e w1 ⟨rfl,hd⟩
  have HD:=z8 hd
  clear hd HN
  go_wp2
  all_goals
   go_ret
   exact ⟨rfl,HD.out⟩

def zj (st:St) (most:Int):St×List UInt8:=zO (zi st most).1 (zi st most).2
theorem zI (st:St) (most:Int):(zj st most).1.bs.length≤st.bs.length:=Nat.le_trans (YG _ _) (xx st most)
def Texts (w:World) (B:Nat) (st:St) (l:List UInt8) (e:Ending) (w':World):Prop:=e=.returned (.string ⟨l.toArray⟩)∧Did w B st w'

set_option maxRecDepth 100000 in
theorem xV (B:Nat) (st:St) (most:Int) (w:World) (h:Rdr w B st) (hl:st.bs.length≤1099511627776) :
  Calls Tryz.prog 235 #[.pointer (some ⟨B,0,none⟩),.int .i64 most] w (Texts w B (zj st most).1 (zj st most).2):=by
 have HN:=z8 (jB B st most w h hl)
 have hll:=xx st most
 have hlt:=X6 st most
 have HT:Hid (zj st most=zO (zi st most).1 (zi st most).2):=rfl
 rw [HT.out]
 clear HT
 generalize (zi st most).2=n at *
 generalize (zi st most).1=s1 at *
 go_enter Tryz.func235,Tryz.ntmps235
 go_wp2_with fail
 with_reducible refine HN.out.mono ?_
 rintro e w1 ⟨rfl,hd⟩
 have HD:=z8 hd
 have HR:=z8 hd.rdr
 clear hd HN
 go_wp2_with fail
 with_reducible refine (X0 B s1 n w1 HR.out (by omega) (by omega)).mono ?_
 rintro e w2 ⟨v,rfl,hr,hd⟩
 have HD2:=z8 (HD.out.next hd)
 have hst:=hr.rd.string (P:=Tryz.prog) (src:=22) (dst:=9) Tryz.underlying22 Tryz.underlying5 Tryz.underlying9
 obtain ⟨A,c,rfl⟩:=hr.shape
 clear hd hr HD HR
 go_wp2
 go_ret
 exact ⟨rfl,HD2.out⟩


set_option maxRecDepth 100000 in
theorem qp (B:Nat) (st:St) (w:World) (h:Rdr w B st) :
  Calls Tryz.prog 174 #[.pointer (some ⟨B,0,none⟩)] w fun e w'=>e=.returned (.int .i64 st.e)∧w=w':=by
 obtain ⟨v,hb,hr⟩:=h
 have c1:w.cell? ⟨B,1,none⟩=some (.int .i64 st.e):=by rw [cell_of_row w B 1 _ _ (0,0) hb]; rfl
 clear hb hr
 go_enter Tryz.func174,Tryz.ntmps174
 go_wp2
 go_ret
 exact ⟨rfl,rfl⟩
def Yu (st:St):Int:=if 0<st.bs.length then 3 else st.e
set_option maxRecDepth 100000 in
theorem YU (B:Nat) (st:St) (w:World) (h:Rdr w B st) :
  Calls Tryz.prog 175 #[.pointer (some ⟨B,0,none⟩)] w fun e w'=>e=.returned (.int .i64 (Yu st))∧w=w':=by
 obtain ⟨v,hb,hr⟩:=h
 have c0:w.cell? ⟨B,0,none⟩=some v:=by rw [cell_of_row w B 0 _ _ (0,0) hb]; rfl
 have c1:w.cell? ⟨B,1,none⟩=some (.int .i64 st.e):=by rw [cell_of_row w B 1 _ _ (0,0) hb]; rfl
 obtain ⟨A,c,rfl⟩:=hr.shape
 clear hb hr
 have HE:Hid (Yu st=if 0<st.bs.length then 3 else st.e):=rfl
 rw [HE.out]
 clear HE
 generalize st.bs.length=n at *
 by_cases h0:0<n
 ·
  rw [if_pos h0]
  go_enter Tryz.func175,Tryz.ntmps175
  go_wp2
  go_ret
  exact ⟨rfl,rfl⟩
 ·
  rw [if_neg h0]
  go_enter Tryz.func175,Tryz.ntmps175
  go_wp2
  go_ret
  exact ⟨rfl,rfl⟩

def Made (w:World) (l:List UInt8) (e:Ending) (w':World):Prop:=∃ B,w.heap.size≤B∧e=.returned (.pointer (some ⟨B,0,none⟩))∧Rdr w' B ⟨l,0⟩∧zb (fun _=>False) w w'
set_option maxRecDepth 100000 in
theorem Jf (u:Value) (l:List UInt8) (w:World) (hu:Rd w u l) (hroom:l.length≤1099511627776) :
  Calls Tryz.prog 169 #[u] w (Made w l):=by
 have HU:=z8 hu
 clear hu
 go_enter Tryz.func169,Tryz.ntmps169
 go_wp2_with fail
 with_reducible refine (Y0 u l w HU.out hroom).mono ?_
 rintro e w1 ⟨v,rfl,ho,hb,ht⟩
 have HF:Hid (Made w l (.returned (.pointer (some ⟨w1.heap.size,0,none⟩))) (w1.alloc (.cells #[v,.int .i64 0] 232))):=by
  refine ⟨w1.heap.size,ht.size,rfl,⟨v,heap_alloc_new w1 _,?_⟩,ht.alloc _⟩
  have ho':=ho.alloc (.cells #[v,.int .i64 0] 232)
  rcases ho.2 with ⟨rfl,h0⟩ | ⟨g,cap,cur,rfl,_,hg,hnc,hcm,_⟩
  ·
   exact .inl ⟨rfl,List.eq_nil_of_length_eq_zero h0⟩
  ·
   have hlt:=(Array.getElem?_eq_some_iff.1 hg).1
   refine .inr ⟨g,0,cap,rfl,hnc,by simpa [maxLen] using hcm,by simp; omega,by omega,⟨cur,_,(Below.heap_alloc w1 _ g hlt).trans hg⟩,fun j hj=>?_⟩
   have:=ho'.cells (g:=g) rfl j (.int .u8 (l[j].toNat:Int)) (by simp [cellsOf,List.getElem?_eq_getElem hj])
   rwa [Addr.add_lit] at this
 obtain ⟨A,c,rfl⟩:=yD ho
 clear ho hb ht
 go_wp2
 go_ret
 exact HF.out


theorem Jp:(Tryz.prog.info? 9).map (fun i=>(i.zero,i.size,i.bytes))=some (some (.string ⟨#[]⟩),1,16):=by kernel_rfl

def rowGo (long:Int):Nat→St→List ByteArray→St×List ByteArray
 | 0,st,acc=>(st,acc)
 | k+1,st,acc=>if (zj st long).1.e≠0 then ((zj st long).1,[]) else rowGo long k (zj st long).1 (acc++[⟨(zj st long).2.toArray⟩])
def xI (st:St) (most long:Int):St×List ByteArray:=rowGo long (zi st most).2 (zi st most).1 []

theorem YO (long:Int):∀ (k:Nat) (st:St) (acc:List ByteArray),(rowGo long k st acc).1.bs.length≤st.bs.length
 | 0,_,_=>Nat.le_refl _
 | k+1,st,acc=>by
  unfold rowGo
  split
  ·
   exact zI st long
  ·
   exact Nat.le_trans (YO long k _ _) (zI st long)

def zr (ss:List ByteArray):List Value:=ss.map Value.string


theorem YV {w:World} {A:Option Addr} {c:Nat} {ss:List ByteArray} (h:w.ownsRow 0 9 1 (.slice A ss.length c) ss.length (zr ss)):RdS w A ss:=by
 intro hne
 have hp:0<ss.length:=by cases ss with | nil=>exact absurd rfl hne | cons _ _=>simp
 obtain ⟨g,cap,hv,_,hlt⟩:=h.form hp
 have hA:A=some ⟨g,0,none⟩:=by injection hv
 subst hA
 refine ⟨g,0,rfl,hlt,fun j hj=>?_⟩
 have:=h.cells (g:=g) rfl j (.string ss[j]) (by simp [zr,List.getElem?_eq_getElem hj])
 rwa [Addr.add_lit] at this
theorem jF {w:World} {B:Nat} {st:St} {v:Value} {n:Nat} {xs:List Value} (hr:Rdr w B st) (h:w.ownsRow 0 9 1 v n xs):v.ownBlock≠some B:=by
 obtain ⟨u,hb,_⟩:=hr
 rcases h.2 with ⟨rfl,_⟩ | ⟨g,cap,cur,rfl,_,hg,_⟩
 ·
  simp [Value.ownBlock]
 ·
  intro he
  have:g=B:=by simpa [Value.ownBlock] using he
  subst this
  have:=hb.symm.trans hg
  simp at this

def str (l:List UInt8):Value:=.string ⟨l.toArray⟩
theorem uh {P:Program} (W:World) (x y:List UInt8) (h:x.length+y.length≤1099511627776):(Op.stringOp .add ⟨x.toArray⟩ ⟨y.toArray⟩).run P W=.ok (.string ⟨(x++y).toArray⟩) W:=by
 rw [run_string_add_sum W _ _ (by simp [ByteArray.size]; omega),ByteArray.mk_append_mk]

def Says (l:List UInt8) (w:World) (e:Ending) (w':World):Prop:=e=.returned (.string ⟨l.toArray⟩)∧zb (fun _=>False) w w'

theorem rd_one (w:World) (b:UInt8):Rd (w.alloc (.cells #[.int .u8 b.toNat] 5)) (.slice (some ⟨w.heap.size,0,none⟩) 1 1) [b] :=
 ⟨_,1,rfl,fun _=>⟨_,rfl,by simp,cell_one_new _ _ _⟩⟩

set_option maxRecDepth 100000 in
theorem U3 (x size:Nat) (w:World) (hx:x<18446744073709551616) (hsize:size≤8) :
  Calls Tryz.prog 187 #[.int .u64 x,.int .i64 size] w (Says (le x size) w):=by
 have HX:=z8 hx
 clear hx
 go_enter Tryz.func187,Tryz.ntmps187
 go_wp2
 go_loopw [0,5,7] (fun y out i wr=>∃ k:Nat,k≤size∧i=.int .i64 k∧y=.int .u64 ((x / 256 ^ k:Nat):Int)∧out=str (le x k)∧zb (fun _=>False) w wr) (fun _ _ i _=>size - (intOf i).toNat)
 case atStart=>exact ⟨0,Nat.zero_le _,rfl,by simp,rfl,zb.refl _ _⟩
 case round =>
  obtain ⟨k,hk,rfl,rfl,rfl,ht⟩:=hrel
  have HT:=z8 ht
  clear ht
  by_cases hlt:k<size
  ·
   obtain ⟨q,hq⟩:∃ q,q=x / 256 ^ k:=⟨_,rfl⟩
   have hql:q<18446744073709551616:=by rw [hq]; exact Nat.lt_of_le_of_lt (Nat.div_le_self _ _) HX.out
   have hqn:x / 256 ^ (k+1)=q / 256:=by rw [hq,Nat.div_div_eq_div_mul,Nat.pow_succ]
   have hcv:(q:Int) % 256=((UInt8.ofNat q).toNat:Int):=by simp
   obtain ⟨b,hb⟩:∃ b,b=UInt8.ofNat q:=⟨_,rfl⟩
   have hln:le x (k+1)=le x k++[b]:=by rw [le,hb,hq]
   rw [← hb] at hcv
   rw [← hq]
   have hcs:=(rd_one wr b).string (P:=Tryz.prog) (src:=22) (dst:=9) Tryz.underlying22 Tryz.underlying5 Tryz.underlying9
   have hll:=zQ x k
   have hadd:=fun W=>uh (P:=Tryz.prog) W (le x k) [b] (by simp [hll]; omega)
   have hdv:IntKind.u64.wrap ((q:Int) / 256)=((q / 256:Nat):Int):=by rw [IntKind.wrap_u64]; omega
   have HQN:=z8 hqn
   have HLN:=z8 hln
   have HQL:=z8 hql
   clear hqn hln hql hq hb hll
   unfold str
   go_wp2
   go_roundw
   case rel=>exact ⟨k+1,by omega,by go_num,by rw [HQN.out]; go_num,by rw [HLN.out],HT.out.alloc _⟩
   case measure=>simp [intOf]; omega
  ·
   obtain rfl:k=size:=by omega
   go_wp2
   go_ret
   exact ⟨rfl,HT.out⟩
theorem num_at (xi si:Int) (x size:Nat) (w:World) (ex:xi=x) (es:si=size) (hx:x<18446744073709551616) (hsize:size≤8) :
  Calls Tryz.prog 187 #[.int .u64 xi,.int .i64 si] w (Says (le x size) w):=by
 subst ex
 subst es
 exact U3 x size w hx hsize
set_option maxRecDepth 100000 in
theorem Yl (is:Bool) (w:World):Calls Tryz.prog 238 #[.bool is] w (Says (le is.toNat 1) w):=by
 cases is
 ·
  go_enter Tryz.func238,Tryz.ntmps238
  go_wp2
  go_ret
  exact ⟨rfl,zb.refl _ _⟩
 ·
  go_enter Tryz.func238,Tryz.ntmps238
  go_wp2
  go_ret
  exact ⟨rfl,zb.refl _ _⟩
set_option maxRecDepth 100000 in
theorem jD (s:ByteArray) (w:World) (hs:s.size≤65535):Calls Tryz.prog 188 #[.string s] w (Says (zo s) w):=by
 have hbl:=yw s
 have hadd:=fun W=>uh (P:=Tryz.prog) W (le s.size 2) s.data.toList (by rw [zQ,hbl]; omega)
 rw [show (ByteArray.mk s.data.toList.toArray)=s by obtain ⟨⟨l⟩⟩:=s; rfl] at hadd
 clear hbl
 go_enter Tryz.func188,Tryz.ntmps188
 go_wp2_with fail
 with_reducible refine (num_at _ _ s.size 2 w (by rfl) (by simp) (by omega) (by omega)).mono ?_
 rintro e w1 ⟨rfl,ht⟩
 have HT:=z8 ht
 clear ht
 go_wp2
 go_ret
 exact ⟨rfl,HT.out⟩
set_option maxRecDepth 100000 in
theorem fE (A:Option Addr) (c:Nat) (ss:List ByteArray) (w:World) (hr:RdS w A ss) (hN:ss.length≤65535) (hs:∀ s∈ss,s.size≤65535) :
  Calls Tryz.prog 92 #[.slice A ss.length c] w (Says (xR ss) w):=by
 have HS:=z8 hs
 have hAt:∀ k,k<ss.length→∀ w',zb (fun _=>False) w w'→∃ (b off:Nat) (t:ByteArray),A=some ⟨b,off,none⟩∧w'.cell? ⟨b,off+k,none⟩=some (.string t)∧t.size≤65535∧zL (ss.take (k+1))=zL (ss.take k)++zo t:=by
  intro k hk w' ht
  obtain ⟨b,off,rfl,hb,hcell⟩:=hr.turns ht (fun _ _ _ f=>f) (by intro e; subst e; simp at hk)
  exact ⟨b,off,ss[k],rfl,hcell k hk,hs _ (List.getElem_mem hk),Ze ss k hk⟩
 have HAt:=z8 hAt
 have HF:Hid (le ss.length 2++zL (ss.take ss.length)=xR ss):=by rw [List.take_length]; exact rfl
 clear hr hs hAt
 generalize ss.length=n at *
 go_enter Tryz.func92,Tryz.ntmps92
 go_wp2_with fail
 with_reducible refine (num_at _ _ n 2 w (by rfl) (by simp) (by omega) (by omega)).mono ?_
 rintro e w1 ⟨rfl,ht⟩
 have HT:=z8 ht
 clear ht
 go_wp2
 go_loopw [3,12] (fun out i wr=>∃ k:Nat,k≤n∧i=.int .i64 k∧out=str (le n 2++zL (ss.take k))∧zb (fun _=>False) w wr) (fun _ i _=>n - (intOf i).toNat)
 case atStart=>exact ⟨0,Nat.zero_le _,rfl,by simp [zL,str],HT.out⟩
 case round =>
  obtain ⟨k,hk,rfl,rfl,htr⟩:=hrel
  by_cases hlt:k<n
  ·
   obtain ⟨b,off,t,rfl,hcell,hts,hsn⟩:=HAt.out k hlt wr htr
   have hlen:(zL (ss.take k)).length≤4294967295:=xF ss k HS.out (by omega)
   have htl:=yE t
   have hadd:=fun W=>uh (P:=Tryz.prog) W (le n 2++zL (ss.take k)) (zo t) (by simp only [List.length_append,zQ,htl]; omega)
   have HSN:Hid (le n 2++zL (ss.take k)++zo t=le n 2++zL (ss.take (k+1))):=by rw [hsn,List.append_assoc]; exact rfl
   have HTR:=z8 htr
   clear hsn hlen htl htr HAt HF
   unfold str
   rw [HSN.out] at hadd
   generalize zL (ss.take k)=tk at *
   go_wp2_with fail
   with_reducible refine (jD t wr hts).mono ?_
   rintro e w2 ⟨rfl,ht2⟩
   have HT2:=z8 (HTR.out.next ht2 (fun _ _ f=>f))
   clear ht2
   go_wp2
   go_roundw
   case rel=>exact ⟨k+1,by omega,by go_num,rfl,HT2.out⟩
   case measure=>simp [intOf]; omega
  ·
   obtain rfl:k=n:=by omega
   rw [HF.out]
   have HTR:=z8 htr
   clear htr HAt HF
   go_wp2
   go_ret
   exact ⟨rfl,HTR.out⟩

theorem val_drop (l:List UInt8) (j:Nat) (hj:j<l.length):val (l.drop j)=l[j].toNat+256 * val (l.drop (j+1)):=by
 rw [List.drop_eq_getElem_cons hj,val]

theorem data_at (s:ByteArray) (j:Nat) (hj:j<s.size):s.data.toList[j]'(by rw [yw]; exact hj)=s[j]:=rfl

set_option maxRecDepth 20000 in
theorem Q4 (s:ByteArray) (w:World) (hs:s.size≤8) :
  Calls Tryz.prog 181 #[.string s] w fun e w'=>e=.returned (.int .u64 (val s.data.toList))∧w=w':=by
 have hbl:=yw s
 have HB:=z8 hbl
 clear hbl
 go_enter Tryz.func181,Tryz.ntmps181
 go_wp2
 go_loop [3,4] (fun x i=>∃ k:Nat,k≤s.size∧i=.int .i64 ((k:Int) - 1)∧x=.int .u64 (val (s.data.toList.drop k))) (fun _ i=>(intOf i+1).toNat)
 case atStart=>exact ⟨s.size,Nat.le_refl _,rfl,by rw [List.drop_of_length_le (by rw [HB.out]; omega)]; rfl⟩
 case round =>
  obtain ⟨k,hk,rfl,rfl⟩:=hrel
  rcases Nat.eq_zero_or_pos k with h0 | h0
  ·
   subst h0
   go_wp2
   go_ret
   exact ⟨by simp,rfl⟩
  ·
   obtain ⟨j,rfl⟩:∃ j,k=j+1:=⟨k - 1,by omega⟩
   have hv:=val_drop s.data.toList j (by rw [HB.out]; omega)
   rw [data_at s j (by omega)] at hv
   have hlt:=J7 (s.data.toList.drop (j+1))
   have hlt2:val (s.data.toList.drop (j+1))<72057594037927936:=by
    refine Nat.lt_of_lt_of_le hlt ?_
    have:256 ^ (s.data.toList.drop (j+1)).length≤256 ^ 7:=Nat.pow_le_pow_right (by omega) (by rw [List.length_drop,HB.out]; omega)
    simpa using this
   have HV:=z8 hv
   clear hv hlt
   generalize val (s.data.toList.drop (j+1))=x at *
   have hcb:(s[j].toNat:Int)<256:=by have:=s[j].toNat_lt; omega
   have e1:((j+1:Nat):Int) - 1=(j:Int):=by omega
   rw [e1]
   have hw1:IntKind.u64.wrap ((x:Int) * 256)=(x:Int) * 256:=by rw [IntKind.wrap_u64]; omega
   have hw2:IntKind.u64.wrap ((x:Int) * 256+(s[j].toNat:Int))=(x:Int) * 256+(s[j].toNat:Int):=by rw [IntKind.wrap_u64]; omega
   clear e1 hlt2
   go_wp2
   go_round
   case rel=>exact ⟨j,by omega,by go_num,by rw [HV.out]; go_num⟩
   case measure=>simp [intOf]

def Ok (st:St):Prop:=st.e≠0→st.bs=[]
def xS (st:St):Value:=.agg #[.string ⟨st.bs.toArray⟩,.int .i64 st.e]

def Ref1 (st:St) (w:World) (e:Ending) (w':World):Prop:=e=.returned (xS st)∧zb (fun _=>False) w w'
set_option maxRecDepth 100000 in
theorem xh (st:St) (ei:Int) (w:World) :
  Calls Tryz.prog 182 #[xS st,.int .i64 ei] w (Ref1 (zu st ei) w):=by
 obtain ⟨l,e⟩:=st
 unfold xS
 dsimp only
 by_cases h1:e=0
 ·
  by_cases h0:ei=0
  ·
   have HF:Hid (zu ⟨l,e⟩ ei=⟨l,e⟩):=by simp [zu,h0,Hid]
   rw [HF.out]
   have d1:(e != 0)=false:=by simpa using h1
   have d0:(ei == 0)=true:=by simpa using h0
   clear h0 h1
   go_enter Tryz.func182,Tryz.ntmps182
   go_wp2
   exact bodyPost_ret (v:=.agg #[.string ⟨l.toArray⟩,.int .i64 e]) (by simp [results,Tryz.results182,go_sem]) rfl ⟨rfl,((zb.refl _ _).alloc _).alloc _⟩
  ·
   have HF:Hid (zu ⟨l,e⟩ ei=⟨[],ei⟩):=by simp [zu,h0,h1,Hid]
   rw [HF.out]
   have d1:(e != 0)=false:=by simpa using h1
   have d0:(ei == 0)=false:=by simpa using h0
   clear h0 h1
   go_enter Tryz.func182,Tryz.ntmps182
   go_wp2
   exact bodyPost_ret (v:=.agg #[.string ⟨#[]⟩,.int .i64 ei]) (by simp [results,Tryz.results182,go_sem]) rfl ⟨rfl,((zb.refl _ _).alloc _).alloc _⟩
 ·
  have HF:Hid (zu ⟨l,e⟩ ei=⟨l,e⟩):=by simp [zu,h1,Hid]
  rw [HF.out]
  have d1:(e != 0)=true:=by simpa using h1
  clear h1
  go_enter Tryz.func182,Tryz.ntmps182
  go_wp2
  exact bodyPost_ret (v:=.agg #[.string ⟨l.toArray⟩,.int .i64 e]) (by simp [results,Tryz.results182,go_sem]) rfl ⟨rfl,((zb.refl _ _).alloc _).alloc _⟩

def Ref3 (st:St) (l:List UInt8) (w:World) (e:Ending) (w':World):Prop:=∃ b,e=.returned (.tuple #[xS st,.string ⟨l.toArray⟩,.bool b])∧zb (fun _=>False) w w'
theorem UE (s:ByteArray) (n:Nat):s.extract n s.size=⟨(s.data.toList.drop n).toArray⟩:=by
 apply ByteArray.ext
 apply Array.toList_inj.1
 rw [Lib.extract_data]
 rw [List.take_of_length_le (by rw [List.length_drop,yw]; omega)]
theorem UD (s:ByteArray) (n:Nat):s.extract 0 n=⟨(s.data.toList.take n).toArray⟩:=by
 apply ByteArray.ext
 apply Array.toList_inj.1
 rw [Lib.extract_data]
 simp
def uA (w:World) (g:Nat) (a b:Value):Prop:=w.heap[g]? = some (.cells #[a,b] 117 (0,0))
theorem uA.c0 {w:World} {g:Nat} {a b:Value} (h:uA w g a b):w.cell? ⟨g,0,none⟩=some a:=by rw [cell_of_row w _ 0 _ _ (0,0) h]; rfl
theorem uA.c1 {w:World} {g:Nat} {a b:Value} (h:uA w g a b):w.cell? ⟨g,1,none⟩=some b:=by rw [cell_of_row w _ 1 _ _ (0,0) h]; rfl
theorem uA.fr {w:World} {g:Nat} {a b:Value} (h:uA w g a b) (i:Nat):w.frozen? ⟨g,i,none⟩=false:=by unfold uA at h; simp [World.frozen?,h]
theorem uA.lt {w:World} {g:Nat} {a b:Value} (h:uA w g a b):g<w.heap.size:=(Array.getElem?_eq_some_iff.1 h).1
theorem uA.new (w:World) (a b:Value):uA (w.alloc (.cells #[a,b] 117)) w.heap.size a b:=heap_alloc_new w _
theorem uA.turns {S:Nat→Prop} {w w':World} {g:Nat} {a b:Value} (h:uA w g a b) (ht:zb S w w') (hn:¬ S g):uA w' g a b:=(ht.block g h.lt hn).trans h
theorem uA.still {w w':World} {g:Nat} {a b:Value} (h:uA w g a b) (ht:zb (fun _=>False) w w'):uA w' g a b:=h.turns ht (fun f=>f)
theorem uA.set {w:World} {g:Nat} {a b a' b':Value} (h:uA w g a b):uA ((w.setCell ⟨g,0,none⟩ a').setCell ⟨g,1,none⟩ b') g a' b':=by
 unfold uA at *
 simp [World.setCell,Array.getElem?_modify,h]
theorem uA.far {w:World} {g g':Nat} {a b:Value} (h:uA w g a b) (hne:g≠g') (x y:Value):uA ((w.setCell ⟨g',0,none⟩ x).setCell ⟨g',1,none⟩ y) g a b :=
 h.turns (((zb.refl (fun i=>i=g') w).setCell (p:=⟨g',0,none⟩) (fun _=>rfl) x).setCell (p:=⟨g',1,none⟩) (fun _=>rfl) y) hne
abbrev boxR (w:World) (a b:Value):World:=w.alloc (.cells #[a,b] 117)
theorem zb.set2 {a w:World} (h:zb (fun _=>False) a w) {g:Nat} (hg:a.heap.size≤g) (x y:Value):zb (fun _=>False) a ((w.setCell ⟨g,0,none⟩ x).setCell ⟨g,1,none⟩ y) :=
 (h.setCell (p:=⟨g,0,none⟩) (fun hlt=>by simp at hlt; omega) x).setCell (p:=⟨g,1,none⟩) (fun hlt=>by simp at hlt; omega) y
theorem boxes (w:World) (a b c d:Value):uA (boxR (boxR w a b) c d) w.heap.size a b∧uA (boxR (boxR w a b) c d) (w.heap.size+1) c d∧zb (fun _=>False) w (boxR (boxR w a b) c d) :=
 ⟨(uA.new w a b).still ((zb.refl _ _).alloc _),by simpa using uA.new (boxR w a b) c d,((zb.refl _ _).alloc _).alloc _⟩

set_option maxRecDepth 100000 in
theorem YE (st:St) (n:Nat) (w:World) (hok:Ok st) (hl:st.bs.length≤1099511627776) (hn:n≤9223372036854775807) :
  Calls Tryz.prog 180 #[xS st,.int .i64 n] w (Ref3 (zO st n).1 (zO st n).2 w):=by
 by_cases hbad:st.e≠0∨st.bs.length<n
 ·
  have HT:Hid (zO st n=(zu st 2,[])):=by
   show zO st n=(zu st 2,[])
   unfold zO
   split
   ·
    rfl
   ·
    rename_i hs
    rcases hbad with hb | hb
    ·
     have hnil:=hok hb
     have hf:zu st 2=st:=by simp [zu,hb]
     rw [hf,hnil]
     simp
     rw [← hnil]
    ·
     exact absurd hb hs
  rw [HT.out]
  have HF:=z8 (fun W=>xh st 2 W)
  generalize zu st 2=s2 at *
  obtain ⟨l,e⟩:=st
  unfold xS at HF ⊢
  dsimp only at *
  have hsz:(ByteArray.mk l.toArray).size=l.length:=by rw [← yw]
  generalize ByteArray.mk l.toArray=s at *
  have hcase:(e != 0)=true∨((e != 0)=false∧s.size<n):=by
   by_cases h:e=0
   ·
    rcases hbad with hb | hb
    ·
     exact absurd h hb
    ·
     exact .inr ⟨by simpa using h,by omega⟩
   ·
    exact .inl (by simpa using h)
  obtain ⟨b0,b1,bt⟩:=boxes w (.string s) (.int .i64 e) (.string ⟨#[]⟩) (.int .i64 0)
  have HB1:=z8 b1
  have HBT:=z8 bt
  clear hbad hsz hok hl HT b0 b1 bt
  rcases hcase with d1 | ⟨d1,hs2⟩
  ·
   go_enter Tryz.func180,Tryz.ntmps180
   go_wp2_with fail
   with_reducible refine (HF.out _).mono ?_
   rintro e' w1 ⟨rfl,ht⟩
   have hb:=HB1.out.still ht
   have c0:=hb.c0
   have c1:=hb.c1
   have f0:=hb.fr
   have HT1:=z8 (HBT.out.next ht (fun _ _ f=>f))
   have HS:=z8 (hb.set (a':=.string ⟨s2.bs.toArray⟩) (b':=.int .i64 s2.e))
   clear ht hb HF HB1 HBT
   unfold xS
   go_wp2
   have r0:=HS.out.c0
   have r1:=HS.out.c1
   exact bodyPost_ret (v:=.tuple #[.agg #[.string ⟨s2.bs.toArray⟩,.int .i64 s2.e],.string ⟨#[]⟩,.bool false]) (by simp [results,Tryz.results180,go_sem,r0,r1]) rfl ⟨false,rfl,HT1.out.set2 (by omega) _ _⟩
  ·
   go_enter Tryz.func180,Tryz.ntmps180
   go_wp2_with fail
   with_reducible refine (HF.out _).mono ?_
   rintro e' w1 ⟨rfl,ht⟩
   have hb:=HB1.out.still ht
   have c0:=hb.c0
   have c1:=hb.c1
   have f0:=hb.fr
   have HT1:=z8 (HBT.out.next ht (fun _ _ f=>f))
   have HS:=z8 (hb.set (a':=.string ⟨s2.bs.toArray⟩) (b':=.int .i64 s2.e))
   clear ht hb HF HB1 HBT
   unfold xS
   go_wp2
   have r0:=HS.out.c0
   have r1:=HS.out.c1
   exact bodyPost_ret (v:=.tuple #[.agg #[.string ⟨s2.bs.toArray⟩,.int .i64 s2.e],.string ⟨#[]⟩,.bool false]) (by simp [results,Tryz.results180,go_sem,r0,r1]) rfl ⟨false,rfl,HT1.out.set2 (by omega) _ _⟩
 ·
  have he:st.e=0:=by
   by_cases h:st.e=0
   ·
    exact h
   ·
    exact absurd (.inl h) hbad
  have hs:¬ st.bs.length<n:=fun h=>hbad (.inr h)
  have HT:Hid (zO st n=(⟨st.bs.drop n,0⟩,st.bs.take n)):=by
   show zO st n=_
   unfold zO
   rw [if_neg hs,he]
  rw [HT.out]
  obtain ⟨l,e⟩:=st
  dsimp only at *
  subst he
  have hsz:(ByteArray.mk l.toArray).size=l.length:=by rw [← yw]
  have hx1:(ByteArray.mk l.toArray).extract n (ByteArray.mk l.toArray).size=⟨(l.drop n).toArray⟩:=by rw [UE]
  have hx2:(ByteArray.mk l.toArray).extract 0 n=⟨(l.take n).toArray⟩:=by rw [UD]
  unfold xS
  dsimp only
  have hrv:xS ⟨l.drop n,0⟩=.agg #[.string ((ByteArray.mk l.toArray).extract n (ByteArray.mk l.toArray).size),.int .i64 0]:=by rw [hx1]; rfl
  have HX2:=z8 hx2
  have HRV:=z8 hrv
  clear hx1 hx2 hrv
  generalize ByteArray.mk l.toArray=s at *
  have hn1:(n:Int)≤(s.size:Int):=by omega
  have hn0:(0:Int)≤(n:Int):=by omega
  have hng:¬ ((s.size:Int)<(n:Int)):=by omega
  clear hbad hs hsz hok hl
  go_enter Tryz.func180,Tryz.ntmps180
  go_wp2
  go_region
  all_goals
   go_wp2
   exact bodyPost_ret (v:=.tuple #[.agg #[.string (s.extract n s.size),.int .i64 0],.string (s.extract 0 n),.bool true]) (by simp [results,Tryz.results180,go_sem]) rfl ⟨true,by rw [HRV.out,← HX2.out],(((zb.refl _ _).alloc _).alloc _).drew⟩

def Ref2 (st:St) (x:Nat) (w:World) (e:Ending) (w':World):Prop:=e=.returned (.tuple #[xS st,.int .u64 x])∧zb (fun _=>False) w w'
set_option maxRecDepth 100000 in
theorem uq (st:St) (si:Int) (size:Nat) (w:World) (hok:Ok st) (hl:st.bs.length≤1099511627776) (hsi:si=size) (hn:size≤8) :
  Calls Tryz.prog 88 #[xS st,.int .i64 si] w (Ref2 (zt st size).1 (zt st size).2 w):=by
 subst hsi
 have hlen:=uW st size
 have HK:=z8 (fun W=>YE st size W hok hl (by omega))
 have HNS:Hid (zt st size=((zO st size).1,val (zO st size).2)):=rfl
 rw [HNS.out]
 clear HNS hok hl
 generalize (zO st size).1=s2 at *
 generalize (zO st size).2=t at *
 obtain ⟨l,e⟩:=st
 unfold xS at HK
 unfold xS
 dsimp only at *
 generalize ByteArray.mk l.toArray=s at *
 obtain ⟨b0,b1,bt⟩:=boxes w (.string s) (.int .i64 e) (.string ⟨#[]⟩) (.int .i64 0)
 have HB1:=z8 b1
 have HBT:=z8 bt
 clear b0 b1 bt
 go_enter Tryz.func88,Tryz.ntmps88
 go_wp2_with fail
 with_reducible refine (HK.out _).mono ?_
 rintro e' w1 ⟨ok,rfl,ht⟩
 have hts:(ByteArray.mk t.toArray).size≤8:=by rw [← yw]; show t.length≤8; omega
 have htd:(ByteArray.mk t.toArray).data.toList=t:=rfl
 have HV:=z8 (fun W=>Q4 (ByteArray.mk t.toArray) W hts)
 rw [htd] at HV
 have hb1:=HB1.out.still ht
 have hlt:w.heap.size+1<w1.heap.size:=hb1.lt
 have HT1:=z8 (HBT.out.next ht (fun _ _ f=>f))
 generalize ByteArray.mk t.toArray=ts at *
 generalize hsb:ByteArray.mk s2.bs.toArray=sb at *
 have hrv:xS s2=.agg #[.string sb,.int .i64 s2.e]:=by rw [← hsb]; rfl
 have hb2:∀ o,uA (w1.alloc o) (w.heap.size+1) (.string ⟨#[]⟩) (.int .i64 0):=fun o=>hb1.still ((zb.refl _ _).alloc o)
 have c0:=fun o=>(hb2 o).c0
 have c1:=fun o=>(hb2 o).c1
 have f0:=fun o=>(hb2 o).fr
 have c0':=hb1.c0
 have c1':=hb1.c1
 have f0':=hb1.fr
 have HS:Hid (uA (((w1.setCell ⟨w.heap.size+1,0,none⟩ (.string sb)).setCell ⟨w.heap.size+1,1,none⟩ (.int .i64 s2.e)).alloc (.cells #[.string sb,.int .i64 s2.e] 117)) (w.heap.size+1) (.string sb) (.int .i64 s2.e)):=hb1.set.still ((zb.refl _ _).alloc _)
 have HRV:=z8 hrv
 rw [hrv]
 clear hts htd hb1 ht HB1 HBT HK hrv hsb hb2
 go_wp2_with fail
 go_region_with (go_at_call 181; refine (HV.out _).mono ?_; rintro e' w' ⟨rfl,rfl⟩)
 all_goals
  go_wp2
  have r0:=HS.out.c0
  have r1:=HS.out.c1
  exact bodyPost_ret (v:=.tuple #[.agg #[.string sb,.int .i64 s2.e],.int .u64 (val t)]) (by simp [results,Tryz.results88,go_sem,r0,r1]) rfl ⟨by rw [HRV.out],((HT1.out.set2 (by omega) _ _).alloc _).drew⟩

theorem Ok.fail {st:St} (h:Ok st) (e:Int):Ok (zu st e):=by
 unfold zu
 split
 ·
  exact h
 ·
  exact fun _=>rfl
theorem Ok.take {st:St} (h:Ok st) (n:Nat):Ok (zO st n).1:=by
 unfold zO
 split
 ·
  exact h.fail 2
 ·
  intro he
  have:=h he
  show st.bs.drop n=[]
  rw [this]; simp
theorem Ok.num {st:St} (h:Ok st) (n:Nat):Ok (zt st n).1:=h.take n
theorem Ok.len {st:St} (h:Ok st) (most:Int):Ok (zi st most).1:=by
 unfold zi
 split
 ·
  exact (h.num 2).fail 3
 ·
  exact h.num 2
theorem Ok.text {st:St} (h:Ok st) (most:Int):Ok (zj st most).1:=(h.len most).take _
theorem Ok.truth {st:St} (h:Ok st):Ok (yj st).1:=by
 unfold yj
 split
 ·
  exact (h.num 1).fail 4
 ·
  exact h.num 1
theorem Ok.rowGo {long:Int}:∀ (k:Nat) (st:St) (acc:List ByteArray),Ok st→Ok (rowGo long k st acc).1
 | 0,_,_,h=>h
 | k+1,st,acc,h=>by
  unfold Go.Proofs.YthmomkjingcbiaaGreatDoor.rowGo
  split
  ·
   exact h.text long
  ·
   exact Ok.rowGo k _ _ (h.text long)
theorem Ok.row {st:St} (h:Ok st) (most long:Int):Ok (xI st most long).1:=Ok.rowGo _ _ _ (h.len most)
theorem qb {st:St} (h:Ok st) (k:Nat) (he:(zt st k).1.e≠0):(zt st k).2=0:=by
 unfold zt zO at *
 split
 ·
  rfl
 ·
  rename_i hs
  rw [if_neg hs] at he
  have:=h he
  rw [this]
  simp [val]
theorem fo {st:St} (h:st.e=0) (e:Int) (he:e≠0):zu st e=⟨[],e⟩:=by simp [zu,h,he]

def RefB (st:St) (b:Bool) (w:World) (e:Ending) (w':World):Prop:=e=.returned (.tuple #[xS st,.bool b])∧zb (fun _=>False) w w'
set_option maxRecDepth 100000 in
theorem Ys (st:St) (w:World) (hok:Ok st) (hl:st.bs.length≤1099511627776) :
  Calls Tryz.prog 183 #[xS st] w (RefB (yj st).1 (yj st).2 w):=by
 have HK:=z8 (fun W si (e:si=((1:Nat):Int))=>uq st si 1 W hok hl e (by omega))
 have hz:=qb hok 1
 have HT:Hid (yj st=if 1<(zt st 1).2 then (zu (zt st 1).1 4,false) else ((zt st 1).1,(zt st 1).2 == 1)):=rfl
 rw [HT.out]
 clear HT hok hl
 generalize (zt st 1).2=x at *
 generalize (zt st 1).1=s2 at *
 obtain ⟨l,e⟩:=st
 unfold xS at HK
 unfold xS
 dsimp only at *
 generalize ByteArray.mk l.toArray=s at *
 obtain ⟨b0,b1,bt⟩:=boxes w (.string s) (.int .i64 e) (.string ⟨#[]⟩) (.int .i64 0)
 have HB1:=z8 b1
 have HBT:=z8 bt
 clear b0 b1 bt
 by_cases h1:1<x
 ·
  have he0:s2.e=0:=by
   by_cases h:s2.e=0
   ·
    exact h
   ·
    have:=hz h; omega
  rw [if_pos h1,fo he0 4 (by omega)]
  clear hz he0
  go_enter Tryz.func183,Tryz.ntmps183
  go_wp2_with fail
  with_reducible refine (HK.out _ _ (by simp)).mono ?_
  rintro e' w1 ⟨rfl,ht⟩
  have hb1:=HB1.out.still ht
  have hlt:w.heap.size+1<w1.heap.size:=hb1.lt
  have HT1:=z8 (HBT.out.next ht (fun _ _ f=>f))
  have c0':=hb1.c0
  have c1':=hb1.c1
  have f0':=hb1.fr
  have HS:=z8 (hb1.set (a':=.string ⟨#[]⟩) (b':=.int .i64 4))
  clear hb1 ht HB1 HBT HK
  unfold xS
  go_wp2
  have r0:=fun o=>(HS.out.still ((zb.refl _ _).alloc o)).c0
  have r1:=fun o=>(HS.out.still ((zb.refl _ _).alloc o)).c1
  exact bodyPost_ret (v:=.tuple #[.agg #[.string ⟨#[]⟩,.int .i64 4],.bool false]) (by simp [results,Tryz.results183,go_sem,r0,r1]) rfl ⟨rfl,(HT1.out.set2 (by omega) _ _).alloc _⟩
 ·
  rw [if_neg h1]
  have HX:Hid (Value.bool ((x:Int) == 1)=Value.bool (x == 1)):=by
   show Value.bool ((x:Int) == 1)=Value.bool (x == 1)
   congr 1
   rw [Bool.eq_iff_iff,beq_iff_eq,beq_iff_eq]
   omega
  clear hz
  go_enter Tryz.func183,Tryz.ntmps183
  go_wp2_with fail
  with_reducible refine (HK.out _ _ (by simp)).mono ?_
  rintro e' w1 ⟨rfl,ht⟩
  have hb1:=HB1.out.still ht
  have hlt:w.heap.size+1<w1.heap.size:=hb1.lt
  have HT1:=z8 (HBT.out.next ht (fun _ _ f=>f))
  have c0':=hb1.c0
  have c1':=hb1.c1
  have f0':=hb1.fr
  have HS:=z8 (hb1.set (a':=.string ⟨s2.bs.toArray⟩) (b':=.int .i64 s2.e))
  clear hb1 ht HB1 HBT HK
  unfold xS
  go_wp2
  have r0:=fun o=>(HS.out.still ((zb.refl _ _).alloc o)).c0
  have r1:=fun o=>(HS.out.still ((zb.refl _ _).alloc o)).c1
  exact bodyPost_ret (v:=.tuple #[.agg #[.string ⟨s2.bs.toArray⟩,.int .i64 s2.e],.bool ((x:Int) == 1)]) (by simp [results,Tryz.results183,go_sem,r0,r1]) rfl ⟨by rw [HX.out]; rfl,(HT1.out.set2 (by omega) _ _).alloc _⟩

def RefT (st:St) (l:List UInt8) (w:World) (e:Ending) (w':World):Prop:=e=.returned (.tuple #[xS st,.string ⟨l.toArray⟩])∧zb (fun _=>False) w w'
set_option maxRecDepth 100000 in
theorem xj (st:St) (most:Int) (w:World) (hok:Ok st) (hl:st.bs.length≤1099511627776) :
  Calls Tryz.prog 179 #[xS st,.int .i64 most] w (RefT (zj st most).1 (zj st most).2 w):=by
 have HK:=z8 (fun W si (e:si=((2:Nat):Int))=>uq st si 2 W hok hl e (by omega))
 have hz:=qb hok 2
 have hx:(zt st 2).2<65536:=vn st 2
 have hok2:=hok.num 2
 have hl2:=Nat.le_trans (yf st 2) hl
 have HT:Hid (zj st most=zO (zi st most).1 (zi st most).2):=rfl
 have HL:Hid (zi st most=if max most 0<((zt st 2).2:Int) then (zu (zt st 2).1 3,0) else ((zt st 2).1,(zt st 2).2)):=rfl
 rw [HT.out,HL.out]
 clear HT HL hok hl
 generalize (zt st 2).2=x at *
 generalize (zt st 2).1=s2 at *
 obtain ⟨l,e⟩:=st
 unfold xS at HK
 unfold xS
 dsimp only at *
 generalize ByteArray.mk l.toArray=s at *
 obtain ⟨b0,b1,bt⟩:=boxes w (.string s) (.int .i64 e) (.string ⟨#[]⟩) (.int .i64 0)
 have HB1:=z8 b1
 have HBT:=z8 bt
 clear b0 b1 bt
 by_cases h1:max most 0<(x:Int)
 ·
  have he0:s2.e=0:=by
   by_cases h:s2.e=0
   ·
    exact h
   ·
    have:=hz h; omega
  have HT:Hid (zO (zu s2 3) 0=(⟨[],3⟩,[])):=by
   show zO (zu s2 3) 0=(⟨[],3⟩,[])
   rw [fo he0 3 (by omega)]
   rfl
  rw [if_pos h1]
  show Calls _ _ _ _ (RefT (zO (zu s2 3) 0).1 (zO (zu s2 3) 0).2 w)
  rw [HT.out]
  have d1:(s2.e == 0)=true:=by simpa using he0
  clear hz HT he0
  go_enter Tryz.func179,Tryz.ntmps179
  go_wp2_with fail
  with_reducible refine (HK.out _ _ (by simp)).mono ?_
  rintro e' w1 ⟨rfl,ht⟩
  have hb1:=HB1.out.still ht
  have hlt:w.heap.size+1<w1.heap.size:=hb1.lt
  have HT1:=z8 (HBT.out.next ht (fun _ _ f=>f))
  have c0':=hb1.c0
  have c1':=hb1.c1
  have f0':=hb1.fr
  have HS:=z8 (hb1.set (a':=.string ⟨#[]⟩) (b':=.int .i64 3))
  clear hb1 ht HB1 HBT HK
  unfold xS
  go_wp2
  all_goals
   have r0:=fun o=>(HS.out.still ((zb.refl _ _).alloc o)).c0
   have r1:=fun o=>(HS.out.still ((zb.refl _ _).alloc o)).c1
   exact bodyPost_ret (v:=.tuple #[.agg #[.string ⟨#[]⟩,.int .i64 3],.string ⟨#[]⟩]) (by simp [results,Tryz.results179,go_sem,r0,r1]) rfl ⟨rfl,(HT1.out.set2 (by omega) _ _).alloc _⟩
 ·
  rw [if_neg h1]
  show Calls _ _ _ _ (RefT (zO s2 x).1 (zO s2 x).2 w)
  have HTK:=z8 (fun W=>YE s2 x W hok2 hl2 (by omega))
  generalize (zO s2 x).1=s3 at *
  generalize (zO s2 x).2=t at *
  clear hz hok2 hl2
  have hcase:(s2.e == 0)=true∨(s2.e == 0)=false:=by cases (s2.e == 0) <;> simp
  go_enter Tryz.func179,Tryz.ntmps179
  go_wp2_with fail
  with_reducible refine (HK.out _ _ (by simp)).mono ?_
  rintro e' w1 ⟨rfl,ht⟩
  have hb1:=HB1.out.still ht
  have hlt:w.heap.size+1<w1.heap.size:=hb1.lt
  have HT1:=z8 (HBT.out.next ht (fun _ _ f=>f))
  have hba:=uA.new w1 (.string ⟨s2.bs.toArray⟩) (.int .i64 s2.e)
  have hbb:=hb1.still ((zb.refl _ _).alloc (.cells #[.string ⟨s2.bs.toArray⟩,.int .i64 s2.e] 117))
  have HBA:=z8 hba
  have HBB:=z8 hbb
  clear hb1 ht HB1 HBT HK hba hbb
  unfold xS at HTK ⊢
  rcases hcase with d1 | d1
  all_goals
   go_wp2_with fail
   all_goals
    with_reducible refine (HTK.out _).mono ?_
    rintro e' w3 ⟨ok,rfl,ht3⟩
    have hba:=HBA.out.still ht3
    have hbb:=HBB.out.still ht3
    have ca0:=hba.c0
    have ca1:=hba.c1
    have fa:=hba.fr
    have cb0:=hbb.c0
    have cb1:=hbb.c1
    have fb:=hbb.fr
    have hne:w1.heap.size≠w.heap.size+1:=by omega
    have HBB3:=z8 hbb
    have HBA3:=z8 hba
    have HT3:=z8 ((HT1.out.alloc _).next ht3 (fun _ _ f=>f))
    clear ht3 hba hbb
    unfold xS
    go_wp2
    have hfin:=HBB3.out.far (g':=w1.heap.size) (by omega) (.string ⟨s3.bs.toArray⟩) (.int .i64 s3.e)
    have r0:=(hfin.set (a':=.string ⟨s3.bs.toArray⟩) (b':=.int .i64 s3.e)).c0
    have r1:=(hfin.set (a':=.string ⟨s3.bs.toArray⟩) (b':=.int .i64 s3.e)).c1
    exact bodyPost_ret (v:=.tuple #[.agg #[.string ⟨s3.bs.toArray⟩,.int .i64 s3.e],.string ⟨t.toArray⟩]) (by simp [results,Tryz.results179,go_sem,r0,r1]) rfl ⟨rfl,(HT3.out.set2 (by omega) _ _).set2 (by omega) _ _⟩


def RefW6 (st:St) (ss:List ByteArray) (w:World) (e:Ending) (w':World):Prop:=∃ A c,e=.returned (.tuple #[xS st,.slice A ss.length c])∧w'.ownsRow 0 9 1 (.slice A ss.length c) ss.length (zr ss)∧(∀ j,Value.ownBlock (.slice A ss.length c)=some j→w.heap.size≤j)∧zb (fun _=>False) w w'
theorem uE {w:World} {g:Nat} {a b:Value} {v:Value} {n:Nat} {xs:List Value} (hr:uA w g a b) (h:w.ownsRow 0 9 1 v n xs):v.ownBlock≠some g:=by
 unfold uA at hr
 rcases h.2 with ⟨rfl,_⟩ | ⟨g',cap,cur,rfl,_,hg,_⟩
 ·
  simp [Value.ownBlock]
 ·
  intro he
  have:g'=g:=by simpa [Value.ownBlock] using he
  subst this
  have:=hr.symm.trans hg
  simp at this

abbrev rowW (w:World) (g:Nat) (st:St):World:=((w.setCell ⟨g,0,none⟩ (.string ⟨st.bs.toArray⟩)).setCell ⟨g,1,none⟩ (.int .i64 st.e)).alloc (.cells #[.string ⟨st.bs.toArray⟩,.int .i64 st.e] 117)
theorem VI (w:World) (g:Nat) (st:St):(rowW w g st).heap.size=w.heap.size+1:=by simp [World.setCell]
theorem YL (w:World) (g:Nat) (st:St):zb (fun i=>i=g) w (rowW w g st) :=
 (((zb.refl (fun i=>i=g) w).setCell (p:=⟨g,0,none⟩) (fun _=>rfl) _).setCell (p:=⟨g,1,none⟩) (fun _=>rfl) _).alloc _

set_option maxRecDepth 100000 in
theorem jP (st:St) (most long:Int) (w:World) (hok:Ok st) (hl:st.bs.length≤1099511627776) :
  Calls Tryz.prog 87 #[xS st,.int .i64 most,.int .i64 long] w (RefW6 (xI st most long).1 (xI st most long).2 w):=by
 obtain ⟨i0,hi,hz0,hz1,hz2⟩:=info_parts Jp
 have HK:=z8 (fun W si (e:si=((2:Nat):Int))=>uq st si 2 W hok hl e (by omega))
 have hz:=qb hok 2
 have hx:(zt st 2).2<65536:=vn st 2
 have hok2:=hok.num 2
 have hl2:=Nat.le_trans (yf st 2) hl
 have HT:Hid (xI st most long=rowGo long (zi st most).2 (zi st most).1 []):=rfl
 have HL:Hid (zi st most=if max most 0<((zt st 2).2:Int) then (zu (zt st 2).1 3,0) else ((zt st 2).1,(zt st 2).2)):=rfl
 rw [HT.out,HL.out]
 clear HT HL hok hl
 generalize (zt st 2).2=x at *
 generalize (zt st 2).1=s2 at *
 obtain ⟨l,e⟩:=st
 unfold xS at HK
 unfold xS
 dsimp only at *
 generalize ByteArray.mk l.toArray=s at *
 obtain ⟨b0,b1,bt⟩:=boxes w (.string s) (.int .i64 e) (.string ⟨#[]⟩) (.int .i64 0)
 have HB1:=z8 b1
 have HBT:=z8 bt
 clear b0 b1 bt
 by_cases h1:max most 0<(x:Int)
 ·
  have he0:s2.e=0:=by
   by_cases h:s2.e=0
   ·
    exact h
   ·
    have:=hz h; omega
  have HT:Hid (rowGo long 0 (zu s2 3) []=(⟨[],3⟩,[])):=by
   show rowGo long 0 (zu s2 3) []=(⟨[],3⟩,[])
   rw [fo he0 3 (by omega)]
   rfl
  rw [if_pos h1]
  show Calls _ _ _ _ (RefW6 (rowGo long 0 (zu s2 3) []).1 (rowGo long 0 (zu s2 3) []).2 w)
  rw [HT.out]
  have d1:(s2.e == 0)=true:=by simpa using he0
  clear hz HT he0 hi hz0 hz1 hz2
  go_enter Tryz.func87,Tryz.ntmps87
  go_wp2_with fail
  with_reducible refine (HK.out _ _ (by simp)).mono ?_
  rintro e' w1 ⟨rfl,ht⟩
  have hb1:=HB1.out.still ht
  have hlt:w.heap.size+1<w1.heap.size:=hb1.lt
  have HT1:=z8 (HBT.out.next ht (fun _ _ f=>f))
  have c0':=hb1.c0
  have c1':=hb1.c1
  have f0':=hb1.fr
  have HS:=z8 (hb1.set (a':=.string ⟨#[]⟩) (b':=.int .i64 3))
  clear hb1 ht HB1 HBT HK
  unfold xS
  go_wp2
  all_goals
   have r0:=fun o=>(HS.out.still ((zb.refl _ _).alloc o)).c0
   have r1:=fun o=>(HS.out.still ((zb.refl _ _).alloc o)).c1
   exact bodyPost_ret (v:=.tuple #[.agg #[.string ⟨#[]⟩,.int .i64 3],.slice none 0 0]) (by simp [results,Tryz.results87,go_sem,r0,r1]) rfl ⟨none,0,rfl,World.ownsRow_nil _ _ _ _,by simp [Value.ownBlock],(HT1.out.set2 (by omega) _ _).alloc _⟩
 ·
  rw [if_neg h1]
  show Calls _ _ _ _ (RefW6 (rowGo long x s2 []).1 (rowGo long x s2 []).2 w)
  obtain ⟨res,HR⟩:∃ res,Hid (rowGo long x s2 []=res):=⟨_,rfl⟩
  rw [HR.out]
  clear hz
  have hcase:(s2.e == 0)=true∨(s2.e == 0)=false:=by cases (s2.e == 0) <;> simp
  go_enter Tryz.func87,Tryz.ntmps87
  go_wp2_with fail
  with_reducible refine (HK.out _ _ (by simp)).mono ?_
  rintro e' w1 ⟨rfl,ht⟩
  have hb1:=HB1.out.still ht
  have hlt:w.heap.size+1<w1.heap.size:=hb1.lt
  have HT1:=z8 (HBT.out.next ht (fun _ _ f=>f))
  have hba:=uA.new w1 (.string ⟨s2.bs.toArray⟩) (.int .i64 s2.e)
  have hbb:=hb1.still ((zb.refl _ _).alloc (.cells #[.string ⟨s2.bs.toArray⟩,.int .i64 s2.e] 117))
  have HBA:=z8 hba
  have HBB:=z8 hbb
  have HOK:=z8 hok2
  have HT2:=z8 (HT1.out.alloc (.cells #[.string ⟨s2.bs.toArray⟩,.int .i64 s2.e] 117))
  have hne:w1.heap.size≠w.heap.size+1:=by omega
  clear hb1 ht HB1 HBT HK hba hbb hok2 HT1
  unfold xS
  generalize hb8:w1.heap.size=b8 at *
  generalize hb6:w.heap.size+1=b6 at *
  have hm:(0<most∧¬ most<(x:Int))∨(¬ 0<most∧¬ (0:Int)<(x:Int)):=by omega
  clear h1
  rcases hm with ⟨hm,h1⟩ | ⟨hm,h1⟩
  ·
   rcases hcase with d1 | d1
   all_goals
    go_wp2
    all_goals
     go_loopw [10,30] (fun l i wr=>∃ (k:Nat) (s1:St) (ss:List ByteArray) (A:Option Addr) (c:Nat),k≤x∧i=.int .u64 k∧l=.slice A ss.length c∧ss.length=k∧wr.ownsRow 0 9 1 (.slice A ss.length c) ss.length (zr ss)∧(∀ j,Value.ownBlock (.slice A ss.length c)=some j→w.heap.size≤j)∧uA wr b8 (.string ⟨s1.bs.toArray⟩) (.int .i64 s1.e)∧uA wr b6 (.string ⟨#[]⟩) (.int .i64 0)∧zb (fun _=>False) w wr∧Ok s1∧s1.bs.length≤1099511627776∧rowGo long (x - k) s1 ss=res) (fun _ i _=>x - (intOf i).toNat)
     case atStart=>exact ⟨0,s2,[],none,0,Nat.zero_le _,rfl,rfl,rfl,World.ownsRow_nil _ _ _ _,by simp [Value.ownBlock],HBA.out,HBB.out,HT2.out,HOK.out,hl2,HR.out⟩
     case round =>
      obtain ⟨k,s1,ss,A,c,hk,rfl,rfl,hsl,hown,hnew,hk8,hk6,hwt,hok1,hsb,hgo⟩:=hrel
      clear HBA HBB HT2 HOK hl2 HR d1
      by_cases hltk:k<x
      ·
       rw [show x - k=(x - (k+1))+1 by omega] at hgo
       have hn8:=uE hk8 hown
       have hn6:=uE hk6 hown
       have HTX:=z8 (fun W=>xj s1 long W hok1 hsb)
       have htl:=zI s1 long
       have hge:w.heap.size≤wr.heap.size:=hwt.size
       have HOK3:=z8 (hok1.text long)
       unfold rowGo at hgo
       generalize hs2:(zj s1 long).1=s3 at *
       generalize (zj s1 long).2=tx at *
       have hsz:s3.bs.length≤1099511627776:=by omega
       have HOW:=z8 hown
       have HNEW:=z8 hnew
       have HK8:=z8 hk8
       have HK6:=z8 hk6
       have HN8:=z8 hn8
       have HN6:=z8 hn6
       have HGO:=z8 hgo
       have HSL:=z8 hsl
       have HWT:=z8 hwt
       have c0:=hk8.c0
       have c1:=hk8.c1
       clear hown hnew hk8 hk6 hn8 hn6 hgo hs2 htl hsb hsl hwt hok1
       unfold xS at HTX
       go_wp2_with fail
       with_reducible refine (HTX.out _).mono ?_
       rintro e w2 ⟨rfl,ht2⟩
       have hge2:wr.heap.size≤w2.heap.size:=ht2.size
       have hk8:=HK8.out.still ht2
       have hk6:=HK6.out.still ht2
       have hlt8:=hk8.lt
       have hlt6:=hk6.lt
       have HO2:=z8 (ht2.owns HOW.out (fun j hj f=>f))
       have HWT2:=z8 (HWT.out.next ht2 (fun _ _ f=>f))
       have c0':=hk8.c0
       have c1':=hk8.c1
       have f8:=hk8.fr
       have g0:=hk6.c0
       have g1:=hk6.c1
       have f6:=hk6.fr
       have HK8:=z8 hk8
       have HK6:=z8 hk6
       clear hk8 hk6 c0 c1 ht2 HTX HOW HWT
       unfold xS
       by_cases he:s3.e=0
       ·
        have hgo:=HGO.out
        rw [if_neg (by simpa using he)] at hgo
        have HG2:=z8 hgo
        have d1:(s3.e != 0)=false:=by simpa using he
        clear hgo he HGO
        have hsn:ss.length≤65536:=by have:=HSL.out; omega
        have hO3:=(YL w2 b8 s3).owns HO2.out (fun j hj he=>HN8.out (by rw [hj,he]))
        have hK8:uA (rowW w2 b8 s3) b8 (.string ⟨s3.bs.toArray⟩) (.int .i64 s3.e):=HK8.out.set.still ((zb.refl _ _).alloc _)
        have hK6:uA (rowW w2 b8 s3) b6 (.string ⟨#[]⟩) (.int .i64 0):=HK6.out.turns (YL w2 b8 s3) (by omega)
        have hWT:zb (fun _=>False) w (rowW w2 b8 s3):=(HWT2.out.set2 (by omega) _ _).alloc _
        have hsrc:Src Tryz.prog 1 45 (.slice (some ⟨w2.heap.size+1,0,none⟩) 1 1) 1 (zr [⟨tx.toArray⟩]) ((rowW w2 b8 s3).alloc (.cells #[.string ⟨tx.toArray⟩] 9)):=by
         rw [← VI w2 b8 s3]
         exact Src.ofSlice _ Tryz.underlying45 _ 1 1 _ rfl (cell_one_new _ _ _) (by intro u hu; simp [zr] at hu; subst hu; rfl)
        have HSRC:=z8 hsrc
        have HO3:=z8 hO3
        have HK8:=z8 hK8
        have HK6:=z8 hK6
        have HWT:=z8 hWT
        have hsz3:=VI w2 b8 s3
        have HSZ3:=z8 hsz3
        clear hsrc hO3 hK8 hK6 hWT HO2 HWT2 hsz3
        go_wp2_with (at_builtin; refine xe _ rfl (.tmp 43) (.tmp 45) 45 45 (by rfl) 9 i0 _ 1 16 Tryz.underlying45 hi hz0 hz1 hz2 rfl (.slice A ss.length c) ss.length (zr ss) (by rfl) (HO3.out.alloc _) (.slice (some ⟨w2.heap.size+1,0,none⟩) 1 1) 1 (zr [⟨tx.toArray⟩]) (by rfl) HSRC.out (by simp only [maxLen]; omega) (by omega) ?_; (intro A3 c3 w3 ho3 hg3 ha3))
        have R3:w3.ownsRow 0 9 1 (.slice A3 (ss++[ByteArray.mk tx.toArray]).length c3) (ss++[ByteArray.mk tx.toArray]).length (zr (ss++[ByteArray.mk tx.toArray])):=by
         have e1:(ss++[ByteArray.mk tx.toArray]).length=ss.length+1:=by simp
         rw [e1]
         simpa [zr] using ho3
        have hTG:zb (fun i=>Value.ownBlock (.slice A ss.length c)=some i) (rowW w2 b8 s3) w3:=((zb.refl _ _).alloc _).grown hg3 (fun k hk _=>hk)
        have N3:∀ j,Value.ownBlock (.slice A3 (ss++[ByteArray.mk tx.toArray]).length c3)=some j→w.heap.size≤j:=by
         intro j hj
         have hj':Value.ownBlock (.slice A3 (ss.length+1) c3)=some j:=by simpa [Value.ownBlock] using hj
         rcases ha3 with h3 | h3
         ·
          exact HNEW.out j (h3 ▸ hj')
         ·
          rw [h3] at hj'
          injection hj' with hj'
          have:=HSZ3.out
          simp [World.setCell] at hj'
          omega
        have HR3:=z8 R3
        have HN3:=z8 N3
        have H8:=z8 (HK8.out.turns hTG HN8.out)
        have H6:=z8 (HK6.out.turns hTG HN6.out)
        have HW3:=z8 (HWT.out.next hTG (fun i hi he=>by have:=HNEW.out i he; omega))
        clear ho3 hg3 ha3 R3 N3 hTG
        go_wp2
        go_roundw
        case rel=>exact ⟨k+1,s3,ss++[⟨tx.toArray⟩],A3,c3,by omega,by go_num,by simp,by simp [HSL.out],HR3.out,HN3.out,H8.out,H6.out,HW3.out,HOK3.out,hsz,HG2.out⟩
        case measure=>simp [intOf]; omega
       ·
        have hgo:=HGO.out
        rw [if_pos (by simpa using he)] at hgo
        have HG2:=z8 hgo
        have d1:(s3.e != 0)=true:=by simpa using he
        clear hgo he HGO
        go_wp2
        have hfin:=((HK6.out.far (g':=b8) (by omega) (.string ⟨s3.bs.toArray⟩) (.int .i64 s3.e)).set (a':=.string ⟨s3.bs.toArray⟩) (b':=.int .i64 s3.e)).still ((zb.refl _ _).alloc (.cells #[.string ⟨s3.bs.toArray⟩,.int .i64 s3.e] 117))
        have r0:=hfin.c0
        have r1:=hfin.c1
        refine bodyPost_ret (v:=.tuple #[.agg #[.string ⟨s3.bs.toArray⟩,.int .i64 s3.e],.slice none 0 0]) ?_ rfl ?_
        ·
         simp [results,Tryz.results87,go_sem,r0,r1]
        ·
         rw [← HG2.out]; exact ⟨none,0,rfl,World.ownsRow_nil _ _ _ _,by simp [Value.ownBlock],((HWT2.out.set2 (by omega) _ _).set2 (by omega) _ _).alloc _⟩
      ·
       obtain rfl:k=x:=by omega
       rw [Nat.sub_self] at hgo
       have HGO:Hid ((s1,ss)=res):=hgo
       have HK8:=z8 hk8
       have HK6:=z8 hk6
       have HWT:=z8 hwt
       have c0:=hk8.c0
       have c1:=hk8.c1
       have g0:=hk6.c0
       have g1:=hk6.c1
       have f6:=hk6.fr
       have HRD:=z8 ((((zb.refl (fun i=>i=b6) wr).setCell (p:=⟨b6,0,none⟩) (fun _=>rfl) (.string ⟨s1.bs.toArray⟩)).setCell (p:=⟨b6,1,none⟩) (fun _=>rfl) (.int .i64 s1.e)).owns hown (fun j hj he=>uE hk6 hown (by rw [hj,he])))
       have HNR:=z8 hnew
       clear hgo hown hk8 hk6 hwt hnew hok1 hsb
       go_wp2
       have r0:=(HK6.out.set (a':=.string ⟨s1.bs.toArray⟩) (b':=.int .i64 s1.e)).c0
       have r1:=(HK6.out.set (a':=.string ⟨s1.bs.toArray⟩) (b':=.int .i64 s1.e)).c1
       refine bodyPost_ret (v:=.tuple #[.agg #[.string ⟨s1.bs.toArray⟩,.int .i64 s1.e],.slice A ss.length c]) ?_ rfl ?_
       ·
        simp [results,Tryz.results87,go_sem,r0,r1]
       ·
        rw [← HGO.out]; exact ⟨A,c,rfl,HRD.out,HNR.out,HWT.out.set2 (by omega) _ _⟩
  ·
   rcases hcase with d1 | d1
   all_goals
    go_wp2
    all_goals
     go_loopw [10,30] (fun l i wr=>∃ (k:Nat) (s1:St) (ss:List ByteArray) (A:Option Addr) (c:Nat),k≤x∧i=.int .u64 k∧l=.slice A ss.length c∧ss.length=k∧wr.ownsRow 0 9 1 (.slice A ss.length c) ss.length (zr ss)∧(∀ j,Value.ownBlock (.slice A ss.length c)=some j→w.heap.size≤j)∧uA wr b8 (.string ⟨s1.bs.toArray⟩) (.int .i64 s1.e)∧uA wr b6 (.string ⟨#[]⟩) (.int .i64 0)∧zb (fun _=>False) w wr∧Ok s1∧s1.bs.length≤1099511627776∧rowGo long (x - k) s1 ss=res) (fun _ i _=>x - (intOf i).toNat)
     case atStart=>exact ⟨0,s2,[],none,0,Nat.zero_le _,rfl,rfl,rfl,World.ownsRow_nil _ _ _ _,by simp [Value.ownBlock],HBA.out,HBB.out,HT2.out,HOK.out,hl2,HR.out⟩
     case round =>
      obtain ⟨k,s1,ss,A,c,hk,rfl,rfl,hsl,hown,hnew,hk8,hk6,hwt,hok1,hsb,hgo⟩:=hrel
      clear HBA HBB HT2 HOK hl2 HR d1
      obtain rfl:k=x:=by omega
      rw [Nat.sub_self] at hgo
      have HGO:Hid ((s1,ss)=res):=hgo
      have HK8:=z8 hk8
      have HK6:=z8 hk6
      have HWT:=z8 hwt
      have c0:=hk8.c0
      have c1:=hk8.c1
      have g0:=hk6.c0
      have g1:=hk6.c1
      have f6:=hk6.fr
      have HRD:=z8 ((((zb.refl (fun i=>i=b6) wr).setCell (p:=⟨b6,0,none⟩) (fun _=>rfl) (.string ⟨s1.bs.toArray⟩)).setCell (p:=⟨b6,1,none⟩) (fun _=>rfl) (.int .i64 s1.e)).owns hown (fun j hj he=>uE hk6 hown (by rw [hj,he])))
      have HNR:=z8 hnew
      clear hgo hown hk8 hk6 hwt hnew hok1 hsb
      go_wp2
      have r0:=(HK6.out.set (a':=.string ⟨s1.bs.toArray⟩) (b':=.int .i64 s1.e)).c0
      have r1:=(HK6.out.set (a':=.string ⟨s1.bs.toArray⟩) (b':=.int .i64 s1.e)).c1
      refine bodyPost_ret (v:=.tuple #[.agg #[.string ⟨s1.bs.toArray⟩,.int .i64 s1.e],.slice A ss.length c]) ?_ rfl ?_
      ·
       simp [results,Tryz.results87,go_sem,r0,r1]
      ·
       rw [← HGO.out]; exact ⟨A,c,rfl,HRD.out,HNR.out,HWT.out.set2 (by omega) _ _⟩

def xc:List (Option Tmp)→(Nat→Value)→Nat→Act→Act
 | [],_,_,a=>a
 | d::ds,x,k,a=>xc ds x (k+1) (a.put d (x k))
def uv:List (Option Tmp)→Bool
 | []=>true
 | none::r=>uv r
 | some d::r=>!(r.contains (some d)) && uv r
def upd (x:Nat→Value) (i:Nat) (v:Value):Nat→Value:=fun j=>if j=i then v else x j

theorem put_put (a:Act) (d:Option Tmp) (u v:Value):(a.put d u).put d v=a.put d v:=by
 cases d with
 | none=>rfl
 | some d=>simp [Act.put]
theorem putL_put {ds:List (Option Tmp)} {x:Nat→Value} {d:Option Tmp} {v:Value}:∀ {k:Nat} {a:Act},(∀ t,d=some t→some t∉ds)→(xc ds x k a).put d v=xc ds x k (a.put d v):=by
 induction ds with
 | nil=>intro k a _; rfl
 | cons e ds ih =>
  intro k a h
  show (xc ds x (k+1) (a.put e (x k))).put d v=xc ds x (k+1) ((a.put d v).put e (x k))
  rw [ih (fun t ht hm=>h t ht (List.mem_cons_of_mem _ hm)),Act.put_comm]
  intro t he hd
  exact h t hd (he ▸ List.mem_cons_self ..)
theorem JY {ds:List (Option Tmp)} {x y:Nat→Value}:∀ {k:Nat} {a:Act},(∀ j,k≤j→x j=y j)→xc ds x k a=xc ds y k a:=by
 induction ds with
 | nil=>intro _ _ _; rfl
 | cons d ds ih =>
  intro k a h
  show xc ds x (k+1) (a.put d (x k))=xc ds y (k+1) (a.put d (y k))
  rw [h k (Nat.le_refl _),ih (fun j hj=>h j (by omega))]
theorem Jc {ds:List (Option Tmp)} {x:Nat→Value} {v:Value}:∀ {i k:Nat} {a:Act} {d:Option Tmp},uv ds=true→ds[i]? = some d→(xc ds x k a).put d v=xc ds (upd x (k+i) v) k a:=by
 induction ds with
 | nil=>intro i k a d _ h; simp at h
 | cons e ds ih =>
  intro i k a d hap hi
  have hap':uv ds=true∧∀ t,e=some t→some t∉ds:=by
   cases e with
   | none=>exact ⟨hap,fun t h=>by cases h⟩
   | some t =>
    simp only [uv,Bool.and_eq_true,Bool.not_eq_true',List.contains_eq_mem,decide_eq_false_iff_not] at hap
    exact ⟨hap.2,fun u hu=>by injection hu with hu; subst hu; exact hap.1⟩
  cases i with
  | zero =>
   have he:e=d:=by simpa using hi
   subst he
   show (xc ds x (k+1) (a.put e (x k))).put e v=xc ds (upd x k v) (k+1) (a.put e (upd x k v k))
   rw [putL_put hap'.2,put_put,show upd x k v k=v from if_pos rfl]
   exact JY (fun j hj=>(if_neg (by omega)).symm)
  | succ i =>
   show (xc ds x (k+1) (a.put e (x k))).put d v=xc ds (upd x (k+(i+1)) v) (k+1) (a.put e (upd x (k+(i+1)) v k))
   rw [ih hap'.1 (by simpa using hi),show upd x (k+(i+1)) v k=x k from if_neg (by omega),show k+1+i=k+(i+1) by omega]

section
variable {P:Program} {ops:Array Oper} {Q:Exit→Act→World→Prop} {md:Region.Mode}

theorem Xi {listed:Array Bool} (hsz:listed.size=ops.size) (back:∀ (i:Nat) (o:Oper),ops[i]? = some o→∀ e∈o.after,e.on<i) (h:Region.ready md ops listed=[]) :
  ∀ j,j<ops.size→listed.getD j false=true:=by
 intro j
 induction j using Nat.strongRecOn with
 | _ j ih =>
  intro hj
  cases hl:listed.getD j false with
  | true=>rfl
  | false =>
   exfalso
   have hm:j∈Region.ready md ops listed:=by
    rw [mem_ready]
    refine ⟨?_,ops[j],Array.getElem?_eq_getElem hj,fun e he _=>ih e.on (back j _ (Array.getElem?_eq_getElem hj) e he) (Nat.lt_trans (back j _ (Array.getElem?_eq_getElem hj) e he) hj)⟩
    have hlt:j<listed.size:=by omega
    simpa [Array.getD_eq_getD_getElem?,Array.getElem?_eq_getElem hlt] using hl
   rw [h] at hm
   cases hm

def qS (md:Region.Mode) (ops:Array Oper) (L:Nat→Bool):Prop:=∀ (j:Nat) (o:Oper),ops[j]? = some o→L j=true→∀ d,(o.after.toList.any fun e=>Region.binds md e && e.on == d)=true→L d=true
def yK (L:Nat→Bool) (i:Nat):Nat→Bool:=fun j=>if j=i then true else L j

theorem FX (a:Act) (Y:Nat→Value→World→Prop) (G:(Nat→Bool)→World→Prop) (hap:uv (ops.toList.map (·.dst))=true)
  (back:∀ (i:Nat) (o:Oper),ops[i]? = some o→∀ e∈o.after,e.on<i)
  (step:∀ (i:Nat) (o:Oper),ops[i]? = some o→∀ (L:Nat→Bool) (x:Nat→Value) (w:World),L i=false→(∀ d,(o.after.toList.any fun e=>Region.binds md e && e.on == d)=true→L d=true)→qS md ops L→G L w→(∀ j,L j=true→Y j (x j) w) →
   ∀ K:Act→World→Prop,(∀ v w',Y i v w'→G (yK L i) w'→(∀ j,L j=true→Y j (x j) w→Y j (x j) w')→K ((xc (ops.toList.map (·.dst)) x 0 a).put o.dst v) w') →
    if Region.wanted o (yielded ops (xc (ops.toList.map (·.dst)) x 0 a).tmps)=true then Oper.wp P o (xc (ops.toList.map (·.dst)) x 0 a) w K Q else K ((xc (ops.toList.map (·.dst)) x 0 a).put o.dst undef) w)
  (fin:∀ (L:Nat→Bool) (x:Nat→Value) (w:World),(∀ j,j<ops.size→L j=true)→G L w→(∀ j,j<ops.size→Y j (x j) w)→Q .normal (xc (ops.toList.map (·.dst)) x 0 a) w) :
  ∀ (fuel:Nat) (listed:Array Bool) (x:Nat→Value) (w:World),listed.size=ops.size→listed.toList.count false≤fuel→qS md ops (fun j=>listed.getD j false)→G (fun j=>listed.getD j false) w→(∀ j,listed.getD j false=true→Y j (x j) w) →
   wpAny P md ops Q fuel listed (xc (ops.toList.map (·.dst)) x 0 a) w:=by
 intro fuel
 induction fuel with
 | zero =>
  intro listed x w hsz hc hcl hG hY
  have hall:∀ j,j<ops.size→listed.getD j false=true:=by
   intro j hj
   cases hl:listed.getD j false with
   | true=>rfl
   | false =>
    exfalso
    have hlt:j<listed.size:=by omega
    have:false∈listed.toList:=by
     rw [List.mem_iff_getElem]
     exact ⟨j,by simpa using hlt,by simpa [Array.getD_eq_getD_getElem?,Array.getElem?_eq_getElem hlt] using hl⟩
    have:=List.count_pos_iff.2 this
    omega
  refine ⟨?_,fin _ x w hall hG (fun j hj=>hY j (hall j hj))⟩
  rw [List.eq_nil_iff_forall_not_mem]
  intro j hj
  rw [mem_ready] at hj
  obtain ⟨h0,o,ho,_⟩:=hj
  have hj':=(Array.getElem?_eq_some_iff.1 ho).1
  have:=hall j hj'
  have hlt:j<listed.size:=by omega
  simp [Array.getD_eq_getD_getElem?,Array.getElem?_eq_getElem hlt] at h0 this
  rw [h0] at this
  cases this
 | succ fuel ih =>
  intro listed x w hsz hc hcl hG hY
  refine ⟨fun hr=>fin _ x w (Xi hsz back hr) hG (fun j hj=>hY j (Xi hsz back hr j hj)),fun i hi=>?_⟩
  have hi':=hi
  rw [mem_ready] at hi'
  obtain ⟨h0,o,ho,hdep⟩:=hi'
  have hlt:i<listed.size:=by have:=(Array.getElem?_eq_some_iff.1 ho).1; omega
  have hfalse:listed[i]=false:=by simpa [Array.getD_eq_getD_getElem?,Array.getElem?_eq_getElem hlt] using h0
  have hdeps:∀ d,(o.after.toList.any fun e=>Region.binds md e && e.on == d)=true→listed.getD d false=true:=by
   intro j hj
   rw [List.any_eq_true] at hj
   obtain ⟨e,he,hb⟩:=hj
   simp only [Bool.and_eq_true,beq_iff_eq] at hb
   obtain ⟨hb1,rfl⟩:=hb
   exact hdep e (by simpa using he) hb1
  have hupd:(fun j=>(listed.setIfInBounds i true).getD j false)=yK (fun j=>listed.getD j false) i:=by
   funext j
   unfold yK
   by_cases e:j=i
   ·
    subst e; simp [hlt]
   ·
    rw [if_neg e,getD_set_ne false (Ne.symm e)]
  have hs:=step i o ho (fun j=>listed.getD j false) x w (by simp [Array.getD_eq_getD_getElem?,Array.getElem?_eq_getElem hlt,hfalse]) hdeps hcl hG hY (wpAny P md ops Q fuel (listed.setIfInBounds i true)) (by
   intro v w' hy hG' hk
   have hd:(ops.toList.map (·.dst))[i]? = some o.dst:=by simp [ho]
   rw [Jc hap hd,Nat.zero_add]
   refine ih _ _ _ (by simpa using hsz) ?_ ?_ ?_ ?_
   ·
    have hcs:=List.count_set (a:=true) (b:=false) (l:=listed.toList) (i:=i) (by simpa using hlt)
    have hpos:0<listed.toList.count false:=List.count_pos_iff.2 (by rw [← hfalse]; simp)
    rw [Array.toList_setIfInBounds,hcs,show listed.toList[i]'(by simpa using hlt)=false from by simpa using hfalse,if_pos (by rfl),if_neg (by decide)]
    omega
   ·
    rw [hupd]
    intro j oj hoj hLj d hd
    unfold yK at hLj ⊢
    by_cases e:d=i
    ·
     rw [if_pos e]
    ·
     rw [if_neg e]
     by_cases ej:j=i
     ·
      subst ej
      rw [ho] at hoj
      injection hoj with hoj
      subst hoj
      exact hdeps d hd
     ·
      rw [if_neg ej] at hLj
      exact hcl j oj hoj hLj d hd
   ·
    rw [hupd]; exact hG'
   ·
    intro j hj
    by_cases e:j=i
    ·
     subst e; rw [show upd x j v j=v from if_pos rfl]; exact hy
    ·
     rw [show upd x i v j=x j from if_neg e]
     rw [getD_set_ne false (Ne.symm e)] at hj
     exact hk j hj (hY j hj))
  unfold wpOp
  rw [ho]
  by_cases hw:Region.wanted o (yielded ops (xc (ops.toList.map (·.dst)) x 0 a).tmps)=true
  ·
   rw [if_pos hw] at hs
   simp only [hw,if_true]
   exact .inl hs
  ·
   rw [if_neg hw] at hs
   simp only [hw]
   exact hs

def VX (a:Act):Option Tmp→Value
 | some d=>a.tmps.getD d undef
 | none=>undef
theorem put_own (a:Act) (d:Option Tmp):a.put d (VX a d)=a:=by
 cases d with
 | none=>rfl
 | some d =>
  have:a.tmps.setIfInBounds d (a.tmps.getD d undef)=a.tmps:=by
   apply Array.ext
   ·
    simp
   ·
    intro i h1 h2
    rw [Array.getElem_setIfInBounds]
    split
    ·
     rename_i h; subst h; simp [Array.getD_eq_getD_getElem?,Array.getElem?_eq_getElem h2]
    ·
     rfl
  simp only [Act.put,VX,this]
theorem XE {ds:List (Option Tmp)} {x:Nat→Value} {a:Act}:∀ {k:Nat},(∀ i d,ds[i]? = some d→x (k+i)=VX a d)→xc ds x k a=a:=by
 induction ds with
 | nil=>intro _ _; rfl
 | cons d ds ih =>
  intro k h
  show xc ds x (k+1) (a.put d (x k))=a
  rw [show x k=VX a d from h 0 d rfl,put_own]
  exact ih (fun i e he=>by have:=h (i+1) e (by simpa using he); rwa [show k+(i+1)=k+1+i by omega] at this)

def Q2 (φ:Nat→Oper→Prop):List Oper→Nat→Prop
 | [],_=>True
 | o::r,k=>φ k o∧Q2 φ r (k+1)
theorem Q2.at_ {φ:Nat→Oper→Prop}:∀ {l:List Oper} {k:Nat},Q2 φ l k→∀ (i:Nat) (o:Oper),l[i]? = some o→φ (k+i) o
 | [],_,_,i,o,h=>by simp at h
 | _::_,_,h,0,o,he=>by
  simp only [List.getElem?_cons_zero,Option.some.injEq] at he
  subst he
  exact h.1
 | _::r,k,h,i+1,o,he=>by
  have:=Q2.at_ h.2 i o (by simpa using he)
  rwa [show k+1+i=k+(i+1) by omega] at this
theorem Q2.mono {φ ψ:Nat→Oper→Prop}:∀ {l:List Oper} {k:Nat},Q2 φ l k→(∀ i o,φ i o→ψ i o)→Q2 ψ l k
 | [],_,_,_=>trivial
 | _::_,_,h,hm=>⟨hm _ _ h.1,Q2.mono h.2 hm⟩

theorem uR {id:Nat} {w:World} {a:Act} (hm:P.follows .mixedOrders=true) (Y:Nat→Value→World→Prop) (G:(Nat→Bool)→World→Prop) (F:(Nat→Value)→Act) (hF:∀ x,xc (ops.toList.map (·.dst)) x 0 a=F x)
  (hap:uv (ops.toList.map (·.dst))=true) (hback:(ops.toList.zipIdx.all fun p=>p.1.after.all fun e=>decide (e.on<p.2))=true) (hG:G (fun _=>false) w.drew)
  (step:Q2 (fun i o=>∀ (L:Nat→Bool) (x:Nat→Value) (w:World),L i=false→(∀ d,(o.after.toList.any fun e=>Region.binds .any e && e.on == d)=true→L d=true)→qS .any ops L→G L w→(∀ j,L j=true→Y j (x j) w) →
   ∀ K:Act→World→Prop,(∀ v w',Y i v w'→G (yK L i) w'→(∀ j,L j=true→Y j (x j) w→Y j (x j) w')→K ((F x).put o.dst v) w') →
    if Region.wanted o (yielded ops (F x).tmps)=true then Oper.wp P o (F x) w K Q else K ((F x).put o.dst undef) w) ops.toList 0)
  (fin:∀ (L:Nat→Bool) (x:Nat→Value) (w:World),(∀ j,j<ops.size→L j=true)→G L w→(∀ j,j<ops.size→Y j (x j) w)→Q .normal (F x) w):(Code.region id ops true).wp P Q a w:=by
 refine wp_region_any hm ?_
 have hb:∀ (i:Nat) (o:Oper),ops[i]? = some o→∀ e∈o.after,e.on<i:=by
  intro i o ho e he
  have hin:(o,i)∈ops.toList.zipIdx:=by
   rw [List.mem_zipIdx_iff_getElem?]
   simpa using ho
  have:=List.all_eq_true.1 hback _ hin
  have:=Array.all_eq_true_iff_forall_mem.1 this e he
  simpa using this
 have h0:(fun j=>(Array.replicate ops.size false).getD j false)=fun _=>false:=by
  funext j
  by_cases h:j<ops.size <;> simp [Array.getD_eq_getD_getElem?,h]
 have:=FX (P:=P) (md:=.any) (Q:=Q) a Y G hap hb (fun i o ho L x w h1 h2 h3 h4 h5 K hK=>by
   have hs:=step.at_ i o (by simpa using ho)
   rw [Nat.zero_add] at hs
   rw [hF] at hK ⊢
   exact hs L x w h1 h2 h3 h4 h5 K hK) (fun L x w h1 h2 h3=>by rw [hF]; exact fin L x w h1 h2 h3) ops.size (Array.replicate ops.size false) (fun i=>VX a (((ops.toList.map (·.dst))[i]?).getD none)) w.drew (by simp) (by simp)
   (by rw [h0]; intro j o _ h; cases h) (by rw [h0]; exact hG) (by
  intro j hj
  have:=congrFun h0 j
  rw [this] at hj
  cases hj)
 rw [XE (fun i d hd=>by rw [Nat.zero_add,hd]; rfl)] at this
 exact this

theorem yS {id:Nat} {w:World} {a:Act} (hm:P.follows .mixedOrders=true) (R:World→Prop) (Y:Nat→Value→World→Prop) (F:(Nat→Value)→Act) (hF:∀ x,xc (ops.toList.map (·.dst)) x 0 a=F x)
  (hap:uv (ops.toList.map (·.dst))=true) (hback:(ops.toList.zipIdx.all fun p=>p.1.after.all fun e=>decide (e.on<p.2))=true) (hR:R w.drew)
  (step:Q2 (fun i o=>∀ (x:Nat→Value) (w:World),R w→(∀ j,(o.after.toList.any fun e=>Region.binds .any e && e.on == j)=true→Y j (x j) w) →
   ∀ K:Act→World→Prop,(∀ v w',Y i v w'→R w'→(∀ j u,Y j u w→Y j u w')→K ((F x).put o.dst v) w') →
    if Region.wanted o (yielded ops (F x).tmps)=true then Oper.wp P o (F x) w K Q else K ((F x).put o.dst undef) w) ops.toList 0)
  (fin:∀ (x:Nat→Value) (w:World),R w→(∀ j,j<ops.size→Y j (x j) w)→Q .normal (F x) w):(Code.region id ops true).wp P Q a w :=
 uR hm Y (fun _ w=>R w) F hF hap hback hR (step.mono fun _ _ h _ x w _ hd _ hR hY K hK=>h x w hR (fun j hj=>hY j (hd j hj)) K fun v w' h1 h2 h3=>hK v w' h1 h2 fun j _ h=>h3 j _ h) fun _ x w _ hR hY=>fin x w hR hY
end
def jq (cs:List Nat) (St:Nat→World→Prop) (L:Nat→Bool) (W:World):Prop:=∃ m,m≤cs.length∧St m W∧∀ r,r<cs.length→L (cs.getD r 0)=decide (r<m)
theorem jq.start {cs:List Nat} {St:Nat→World→Prop} {W:World} (h:St 0 W):jq cs St (fun _=>false) W:=⟨0,Nat.zero_le _,h,fun r _=>by simp⟩
theorem jq.same {cs:List Nat} {St:Nat→World→Prop} {L:Nat→Bool} {W W':World} (h:jq cs St L W) (i:Nat) (hi:cs.contains i=false) (hS:∀ m,St m W→St m W'):jq cs St (yK L i) W':=by
 obtain ⟨m,hm,hs,hr⟩:=h
 refine ⟨m,hm,hS m hs,fun r hrl=>?_⟩
 have hne:cs.getD r 0≠i:=by
  intro e
  have hmem:i∈cs:=by
   rw [← e,List.getD_eq_getElem?_getD,List.getElem?_eq_getElem hrl]
   exact List.getElem_mem hrl
  rw [List.contains_eq_mem,decide_eq_false_iff_not] at hi
  exact hi hmem
 rw [show yK L i (cs.getD r 0)=L (cs.getD r 0) from if_neg hne,hr r hrl]
theorem jq.at_ {cs:List Nat} {St:Nat→World→Prop} {L:Nat→Bool} {W:World} (h:jq cs St L W) (q:Nat) (hq:q<cs.length) (hL:L (cs.getD q 0)=false) (hp:q=0∨L (cs.getD (q - 1) 0)=true):St q W:=by
 obtain ⟨m,hm,hs,hr⟩:=h
 have h1:¬ q<m:=by have:=hr q hq; rw [hL] at this; simpa using this.symm
 have h2:m=q:=by
  rcases hp with rfl | hp
  ·
   omega
  ·
   have:=hr (q - 1) (by omega)
   rw [hp] at this
   have:q - 1<m:=by simpa using this.symm
   omega
 rw [← h2]
 exact hs
theorem jq.next {cs:List Nat} {St:Nat→World→Prop} {L:Nat→Bool} {W W':World} (h:jq cs St L W) (q i:Nat) (hq:q<cs.length) (hi:cs.getD q 0=i) (hL:L i=false) (hp:q=0∨L (cs.getD (q - 1) 0)=true)
  (hnd:(List.range cs.length).all (fun r=>r == q || cs.getD r 0 != i)=true) (hS:St (q+1) W'):jq cs St (yK L i) W':=by
 obtain ⟨m,hm,hs,hr⟩:=h
 have h1:¬ q<m:=by have:=hr q hq; rw [hi,hL] at this; simpa using this.symm
 have h2:m=q:=by
  rcases hp with rfl | hp
  ·
   omega
  ·
   have:=hr (q - 1) (by omega)
   rw [hp] at this
   have:q - 1<m:=by simpa using this.symm
   omega
 subst h2
 refine ⟨m+1,by omega,hS,fun r hrl=>?_⟩
 have h3:=List.all_eq_true.1 hnd r (List.mem_range.2 hrl)
 by_cases e:r=m
 ·
  subst e
  rw [hi,show yK L i i=true from if_pos rfl]
  simp
 ·
  have hne:cs.getD r 0≠i:=by
   have e1:(r == m)=false:=by simpa using e
   rw [e1,Bool.false_or,bne_iff_ne] at h3
   exact h3
  rw [show yK L i (cs.getD r 0)=L (cs.getD r 0) from if_neg hne,hr r hrl]
  have:(r<m)↔(r<m+1):=by omega
  simp [this]
end Go.Proofs.YthmomkjingcbiaaGreatDoor
