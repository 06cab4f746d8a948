/-
  The texts that the laws of this seat share, part 1: what the code and the document's own answers tell, walked function by function.
  Conditions: each theorem's own.
-/
import Derived.WalkKit
import Derived.Deep.AppendSrc
import Derived.Deep.AppendLies
import Derived.Deep.Draws
import Derived.Deep.RegionLaw
import Derived.Laws.IdiomStrings
import Derived.Test.YteegkoicalbkbaaGreatDoorProg
import Derived.WalkSpells
import Derived.WalkLawsBesides
import Derived.Lib.Hide
import Derived.KernelRfl
import Derived.Lib.SliceRun
import Derived.Orders
import Derived.LaidEqlPtr
import Derived.Laws.Concat
import Derived.Lib.IndexBytes
import Derived.Deep.RegionHeld3
set_option maxHeartbeats 16000000
namespace Go.Proofs.YteegkoicalbkbaaGreatDoor
open Go.RowKit

theorem za {p:Prop} (h:p):Hid p:=h
structure zg (S:Nat→Prop) (w w':World):Prop where
 os:w'.os=w.os
 tape:w'.tape=w.tape
 output:w'.output=w.output
 size:w.heap.size≤w'.heap.size
 block:∀ k,k<w.heap.size→¬ S k→w'.heap[k]? = w.heap[k]?

section
variable {S S':Nat→Prop} {a w w':World}
theorem zg.refl (S:Nat→Prop) (w:World):zg S w w:=⟨rfl,rfl,rfl,Nat.le_refl _,fun _ _ _=>rfl⟩
theorem zg.next (h:zg S a w) (k:zg S' w w') (hs:∀ i,i<a.heap.size→S' i→S i):zg S a w' :=
 ⟨k.os.trans h.os,k.tape.trans h.tape,k.output.trans h.output,Nat.le_trans h.size k.size,
  fun i hi hn=>(k.block i (Nat.lt_of_lt_of_le hi h.size) (fun hc=>hn (hs i hi hc))).trans (h.block i hi hn)⟩
theorem zg.mono (h:zg S a w) (hs:∀ i,i<a.heap.size→S i→S' i):zg S' a w :=
 ⟨h.os,h.tape,h.output,h.size,fun i hi hn=>h.block i hi (fun hc=>hn (hs i hi hc))⟩
theorem zg.drew (h:zg S a w):zg S a w.drew:=⟨h.os,h.tape,h.output,h.size,h.block⟩
theorem zg.drewN (h:zg S a w) (n:Nat):zg S a (w.drewN n):=⟨h.os,h.tape,h.output,h.size,h.block⟩
theorem zg.alloc (h:zg S a w) (o:Obj):zg S a (w.alloc o) :=
 h.next (S':=fun _=>False) ⟨rfl,rfl,rfl,by simp,fun k hk _=>Below.heap_alloc _ _ _ hk⟩ (fun _ _ hf=>hf.elim)
theorem zg.setCell (h:zg S a w) {p:Addr} (hp:p.block<a.heap.size→S p.block) (u:Value):zg S a (w.setCell p u) :=
 h.next (S':=fun i=>i=p.block) ⟨rfl,rfl,rfl,by simp [World.setCell],fun k _ hk=>Below.heap_setCell _ _ _ _ hk⟩ (fun i hi he=>by subst he; exact hp hi)
theorem zg.grown (h:zg S a w) {row:Option Nat} (hg:w.grownBy w' row) (hr:∀ k,row=some k→k<a.heap.size→S k):zg S a w' :=
 h.next (S':=fun i=>row=some i) ⟨hg.os,hg.tape,hg.output,hg.size,fun k hk hn=>hg.block k hk (fun e=>hn e.symm)⟩ (fun i hi he=>hr i he hi)
theorem zg.below (h:zg S a w) (hs:∀ i,S i→a.heap.size≤i):Below a.heap.size a w :=
 ⟨h.os,h.tape,h.output,h.size,fun k hk=>h.block k hk (fun hc=>by have:=hs k hc; omega)⟩
theorem zg.of_below (h:Below a.heap.size a w) (S:Nat→Prop):zg S a w:=⟨h.os,h.tape,h.output,h.size,fun k hk _=>h.block k hk⟩
theorem zg.below_at (h:zg S a w) {B:Nat} (hB:B≤a.heap.size) (hs:∀ i,S i→B≤i):Below B a w :=
 ⟨h.os,h.tape,h.output,h.size,fun k hk=>h.block k (by omega) (fun hc=>by have:=hs k hc; omega)⟩
theorem zg.cell (h:zg S a w) {p:Addr} (hl:p.block<a.heap.size) (hn:¬ S p.block):w.cell? p=a.cell? p:=World.cell?_of_block (h.block p.block hl hn)
theorem zg.owns {e:TypeId} {size n:Nat} {v:Value} {xs:List Value} (h:zg S a w) (ho:a.ownsRow 0 e size v n xs) (hn:∀ k,v.ownBlock=some k→¬ S k):w.ownsRow 0 e size v n xs:=by
 refine ⟨ho.1,?_⟩
 rcases ho.2 with h0 | ⟨g,cap,cur,rfl,hb,hg,rest⟩
 ·
  exact .inl h0
 ·
  exact .inr ⟨g,cap,cur,rfl,hb,(h.block g (Array.getElem?_eq_some_iff.1 hg).1 (hn g rfl)).trans hg,rest⟩
end

def cellsOf (l:List UInt8):List Value:=l.map fun b=>Value.int .u8 b.toNat
theorem qI (l:List UInt8):(cellsOf l).length=l.length:=by simp [cellsOf]
theorem fw (a b:List UInt8):cellsOf (a++b)=cellsOf a++cellsOf b:=by simp [cellsOf]
theorem YF (s:ByteArray):s.data.toList.length=s.size:=by rw [Array.length_toList]; rfl
theorem Vi (l:List UInt8):∀ u∈cellsOf l,u.oneCell'=true:=by
 intro u hu
 obtain ⟨_,_,rfl⟩:=List.mem_map.1 hu
 rfl

theorem yI {w:World} {e:TypeId} {size n:Nat} {v:Value} {xs:List Value} (h:w.ownsRow 0 e size v n xs):∃ A c,v=.slice A n c:=by
 rcases h.2 with ⟨rfl,rfl⟩ | ⟨g,cap,cur,rfl,_⟩
 ·
  exact ⟨_,_,rfl⟩
 ·
  exact ⟨_,_,rfl⟩

section
variable {P:Program} (w:World)
theorem VE (t tx ty e:TypeId) (i:TypeInfo) (z:Value) (size bytes:Nat) (ht:P.underlying t=some (.slice e)) (hi:P.info? e=some i) (hz:i.zero=some z)
  (hsize:i.size=size) (hby:i.bytes=bytes) (hzs:z.cells.size=size)
  (v:Value) (n:Nat) (xs:List Value) (hown:w.ownsRow 0 e size v n xs) (x:Value) (m:Nat) (news:List Value) (hs:Src P size tx x m news w)
  (h63:n+m≤maxLen) (hbytes:(n+m) * bytes≤140737488355328) :
  ∃ v' w',(Builtin.append_ #[t,tx] ty #[v,x]).run P w=.ok v' w'∧w'.ownsRow 0 e size v' (n+m) (xs++news)∧w.grownBy w' v.ownBlock ∧
   (v'.ownBlock=v.ownBlock∨v'.ownBlock=some w.heap.size):=by
 subst hsize
 subst hby
 have hlen:(xs++news).length=(n+m) * i.size:=by rw [List.length_append,hown.1,hs.newsLen,Nat.add_mul]
 have fresh:∀ old:Nat,∀ row:Option Nat,
   (w.drew.alloc (.cells ((xs++news).toArray++Builtin.zeroCells z.cells (grownCap w (n+m) old e - (n+m))) e)).ownsRow 0 e i.size
    (.slice (some ⟨w.heap.size,0,none⟩) (n+m) (grownCap w (n+m) old e)) (n+m) (xs++news) ∧
   w.grownBy (w.drew.alloc (.cells ((xs++news).toArray++Builtin.zeroCells z.cells (grownCap w (n+m) old e - (n+m))) e)) row:=by
  intro old row
  have hge:=grownCap_ge w (n+m) old e
  have hcm:grownCap w (n+m) old e≤maxLen:=grownCap_le_maxLen w (n+m) old e h63
  refine ⟨⟨hlen,.inr ⟨w.heap.size,_,_,rfl,Nat.zero_le _,heap_alloc_new w.drew _,hge,hcm,?_,?_⟩⟩,⟨rfl,rfl,rfl,by simp,fun k hk _=>Below.heap_alloc w.drew _ k hk⟩⟩
  ·
   simp only [Array.size_append,List.size_toArray,size_zeroCells,hzs,hlen,← Nat.add_mul]
   congr 1
   omega
  ·
   rw [Array.toList_append,← hlen]
   exact List.take_left
 have hsmall:((n+m:Nat):Int)≤9223372036854775807:=by simp only [maxLen] at h63; omega
 rcases hown.2 with ⟨rfl,rfl⟩ | ⟨g,cap,cur,rfl,hbg,hg,hnc,hcm,hcs,htake⟩
 ·
  have hx:xs=[]:=List.eq_nil_of_length_eq_zero (by simpa using hown.1)
  subst hx
  by_cases hm:m=0
  ·
   subst hm
   have hn:news=[]:=List.eq_nil_of_length_eq_zero (by simpa using hs.newsLen)
   subst hn
   refine ⟨.slice none 0 0,w,?_,World.ownsRow_nil w 0 e i.size,⟨rfl,rfl,rfl,Nat.le_refl _,fun _ _ _=>rfl⟩,Or.inl rfl⟩
   rcases hs.kind with ⟨e',hk⟩ | hk <;> simp [Builtin.append_,run_underlying ht,run_underlying hk,sizeOf,typeInfo,hi,hs.len,hs.cells]
  ·
   have hr:=run_append_grow_src (P:=P) w t tx ty e i z ht hi hz none 0 0 [] (run_firstCells_none w.drew i.size 0 0 0) x m news hs (by omega) hsmall (growslice_fits (by omega) hbytes)
   have hf:=fresh 0 (Value.ownBlock (.slice none 0 0))
   exact ⟨_,_,hr,hf.1,hf.2,Or.inr rfl⟩
 ·
  by_cases hroom:n+m≤cap
  ·
   have hfit:n * i.size+news.length≤cur.size:=by rw [hs.newsLen,hcs,← Nat.add_mul]; exact Nat.mul_le_mul_right _ hroom
   have hst:=run_storeCells_at P g (n * i.size) e news 0 cur w hg (by simpa using hfit) hs.one
   simp only [Nat.add_zero] at hst
   refine ⟨.slice (some ⟨g,0,none⟩) (n+m) cap,w.setRow g (cur.toList.take (n * i.size)++news++cur.toList.drop (n * i.size+news.length)).toArray,?_,
    ⟨hlen,.inr ⟨g,cap,_,rfl,hbg,setRow_heap w g cur _ e _ hg,hroom,hcm,?_,?_⟩⟩,⟨rfl,rfl,rfl,by simp,fun k _ hk=>setRow_other w g k _ (fun e=>hk (by simp [Value.ownBlock,e]))⟩,Or.inl rfl⟩
   ·
    rcases hs.kind with ⟨e',hk⟩ | hk <;> simp [Builtin.append_,run_underlying ht,run_underlying hk,sizeOf,typeInfo,hi,hs.len,hroom,hs.cells,Addr.add_lit,hst]
   ·
    simp only [List.size_toArray,List.length_append,List.length_take,List.length_drop,Array.length_toList]
    omega
   ·
    rw [htake,← hlen]
    exact List.take_left
  ·
   have holds:∀ j u,xs[j]? = some u→w.drew.cell? ((⟨g,0,none⟩:Addr).add j)=some u:=hown.cells (g:=g) rfl
   have hr:=run_append_grow_src (P:=P) w t tx ty e i z ht hi hz (some ⟨g,0,none⟩) n cap xs (run_firstCells_some w.drew i.size n ⟨g,0,none⟩ n cap xs hown.1 holds) x m news hs (by omega) hsmall (growslice_fits (by omega) hbytes)
   have hf:=fresh cap (Value.ownBlock (.slice (some ⟨g,0,none⟩) n cap))
   exact ⟨_,_,hr,hf.1,hf.2,Or.inr rfl⟩

theorem fX {o:Oper} {a:Act} {K:Act→World→Prop} {Q:Exit→Act→World→Prop} (s x:Operand) (t tx:TypeId)
  (ho:o.op=.call { callee:=.builtin .append,args:=#[s,x],argTypes:=#[t,tx] })
  (e:TypeId) (i:TypeInfo) (z:Value) (size bytes:Nat) (ht:P.underlying t=some (.slice e)) (hi:P.info? e=some i) (hz:i.zero=some z)
  (hsize:i.size=size) (hby:i.bytes=bytes) (hzs:z.cells.size=size)
  (v:Value) (n:Nat) (xs:List Value) (hv:a.eval s=v) (hown:w.ownsRow 0 e size v n xs) (y:Value) (m:Nat) (news:List Value) (hx:a.eval x=y) (hs:Src P size tx y m news w)
  (h63:n+m≤maxLen) (hbytes:(n+m) * bytes≤140737488355328)
  (h:∀ A c w',w'.ownsRow 0 e size (.slice A (n+m) c) (n+m) (xs++news)→w.grownBy w' v.ownBlock→(Value.ownBlock (.slice A (n+m) c)=v.ownBlock∨Value.ownBlock (.slice A (n+m) c)=some w.heap.size)→K (a.put o.dst (.slice A (n+m) c)) w'):o.wp P a w K Q:=by
 obtain ⟨v',w',hr,h2,h3,h4⟩:=VE (P:=P) w t tx o.type e i z size bytes ht hi hz hsize hby hzs v n xs hown y m news hs h63 hbytes
 unfold Oper.wp execOp
 simp only [ho,resolve,invoke,builtin,Sem.run_bind,Sem.run_pure,Result.andThen_ok,List.map_toArray,List.map_cons,List.map_nil,hv,hx,hr]
 obtain ⟨A,c,rfl⟩:=yI h2
 exact h A c w' h2 h3 h4

theorem vj {ops:Array Oper} {rest:List Oper} {o:Oper} {a:Act} {Q:Exit→Act→World→Prop} (hgd:o.guard=none) (s x:Operand) (t tx:TypeId)
  (ho:o.op=.call { callee:=.builtin .append,args:=#[s,x],argTypes:=#[t,tx] })
  (e:TypeId) (i:TypeInfo) (z:Value) (size bytes:Nat) (ht:P.underlying t=some (.slice e)) (hi:P.info? e=some i) (hz:i.zero=some z)
  (hsize:i.size=size) (hby:i.bytes=bytes) (hzs:z.cells.size=size)
  (v:Value) (n:Nat) (xs:List Value) (hv:a.eval s=v) (hown:w.ownsRow 0 e size v n xs) (y:Value) (m:Nat) (news:List Value) (hx:a.eval x=y) (hs:Src P size tx y m news w)
  (h63:n+m≤maxLen) (hbytes:(n+m) * bytes≤140737488355328)
  (h:∀ A c w',w'.ownsRow 0 e size (.slice A (n+m) c) (n+m) (xs++news)→w.grownBy w' v.ownBlock→(Value.ownBlock (.slice A (n+m) c)=v.ownBlock∨Value.ownBlock (.slice A (n+m) c)=some w.heap.size)→wpList P ops Q rest (a.put o.dst (.slice A (n+m) c)) w'):wpList P ops Q (o::rest) a w :=
 wpList_plain hgd fun _ hK=>fX w s x t tx ho e i z size bytes ht hi hz hsize hby hzs v n xs hv hown y m news hx hs h63 hbytes fun A c w' h2 h3 h4=>hK _ _ (h A c w' h2 h3 h4)

theorem Xf {ops:Array Oper} {o:Oper} {a:Act} {K:Act→World→Prop} {Q:Exit→Act→World→Prop} {E:Prop} (hgd:o.guard=none) (s x:Operand) (t tx:TypeId)
  (ho:o.op=.call { callee:=.builtin .append,args:=#[s,x],argTypes:=#[t,tx] })
  (e:TypeId) (i:TypeInfo) (z:Value) (size bytes:Nat) (ht:P.underlying t=some (.slice e)) (hi:P.info? e=some i) (hz:i.zero=some z)
  (hsize:i.size=size) (hby:i.bytes=bytes) (hzs:z.cells.size=size)
  (v:Value) (n:Nat) (xs:List Value) (hv:a.eval s=v) (hown:w.ownsRow 0 e size v n xs) (y:Value) (m:Nat) (news:List Value) (hx:a.eval x=y) (hs:Src P size tx y m news w)
  (h63:n+m≤maxLen) (hbytes:(n+m) * bytes≤140737488355328)
  (h:∀ A c w',w'.ownsRow 0 e size (.slice A (n+m) c) (n+m) (xs++news)→w.grownBy w' v.ownBlock→(Value.ownBlock (.slice A (n+m) c)=v.ownBlock∨Value.ownBlock (.slice A (n+m) c)=some w.heap.size)→K (a.put o.dst (.slice A (n+m) c)) w') :
  if Region.wanted o (yielded ops a.tmps)=true then Oper.wp P o a w K Q else E:=by
 have hw:Region.wanted o (yielded ops a.tmps)=true:=by simp [Region.wanted,hgd]
 rw [if_pos hw]
 exact fX w s x t tx ho e i z size bytes ht hi hz hsize hby hzs v n xs hv hown y m news hx hs h63 hbytes h
end

def Rd (w:World) (v:Value) (l:List UInt8):Prop :=
 ∃ A c,v=.slice A l.length c∧(l≠[]→∃ ad:Addr,A=some ad∧ad.block<w.heap.size∧∀ j u,(cellsOf l)[j]? = some u→w.cell? (ad.add j)=some u)

theorem add_block (a:Addr) (n:Nat):(a.add n).block=a.block:=by unfold Addr.add; split <;> rfl

section
variable {w w':World} {v:Value} {l:List UInt8}
theorem Rd.of_own {e:TypeId} (h:w.ownsRow 0 e 1 v l.length (cellsOf l)):Rd w v l:=by
 obtain ⟨A,c,rfl⟩:=yI h
 refine ⟨A,c,rfl,fun hn=>?_⟩
 have hp:0<l.length:=by cases l with | nil=>exact absurd rfl hn | cons _ _=>simp
 obtain ⟨g,cap,hv,_,hlt⟩:=h.form hp
 have hA:A=some ⟨g,0,none⟩:=by injection hv
 subst hA
 exact ⟨_,rfl,hlt,h.cells (g:=g) rfl⟩
theorem Rd.turns {S:Nat→Prop} (h:Rd w v l) (ht:zg S w w') (hn:∀ k,v.ownBlock=some k→¬ S k):Rd w' v l:=by
 obtain ⟨A,c,rfl,hc⟩:=h
 refine ⟨A,c,rfl,fun hl=>?_⟩
 obtain ⟨ad,rfl,hb,hcell⟩:=hc hl
 exact ⟨ad,rfl,Nat.lt_of_lt_of_le hb ht.size,fun j u hu=>(ht.cell (by rw [add_block]; exact hb) (by rw [add_block]; exact hn _ rfl)).trans (hcell j u hu)⟩
theorem Rd.still (h:Rd w v l) (ht:zg (fun _=>False) w w'):Rd w' v l:=h.turns ht (fun _ _ f=>f)
theorem Rd.src {P:Program} {t e:TypeId} (h:Rd w v l) (hk:P.underlying t=some (.slice e)):Src P 1 t v l.length (cellsOf l) w:=by
 obtain ⟨A,c,rfl,hc⟩:=h
 by_cases hl:l=[]
 ·
  subst hl
  cases A with
  | none=>exact Src.ofNil w hk c
  | some ad=>exact Src.ofSlice w hk ad 0 c [] rfl (fun j u hu=>by simp at hu) (fun u hu=>by cases hu)
 ·
  obtain ⟨ad,rfl,_,hcell⟩:=hc hl
  exact Src.ofSlice w hk ad l.length c _ (by simp [qI]) hcell (Vi l)
theorem Rd.string {P:Program} {src dst e:TypeId} (h:Rd w v l) (hs:P.underlying src=some (.slice e)) (he:P.underlying e=some (.int .u8)) (hd:P.underlying dst=some .string) :
  (convert src dst v).run P w=.ok (.string ⟨l.toArray⟩) w:=by
 obtain ⟨A,c,rfl,hc⟩:=h
 cases A with
 | none =>
  have hl:l=[]:=by
   by_cases hl:l=[]
   ·
    exact hl
   ·
    obtain ⟨ad,h,_⟩:=hc hl
    cases h
  subst hl
  rw [run_convert_bytes_string w src dst e none _ c hs he hd]
  simp [Conv.bytesToString]
  rfl
 | some ad =>
  refine run_convert_bytes_back w src dst e ad c l hs he hd (fun j hj=>?_)
  obtain ⟨ad',h,_,hcell⟩:=hc (by intro h; subst h; simp at hj)
  injection h with h
  subst h
  exact hcell j _ (by simp [cellsOf,List.getElem?_eq_getElem hj])
end
theorem Rd.at_ {w:World} {v:Value} {l:List UInt8} (h:Rd w v l) (k:Nat) (hk:k<l.length):∃ g off c,v=.slice (some ⟨g,off,none⟩) l.length c∧w.cell? ⟨g,off+k,none⟩=some (.int .u8 (l[k].toNat:Int)):=by
 obtain ⟨A,c,rfl,h⟩:=h
 obtain ⟨ad,rfl,hb,hc⟩:=h (by intro e; subst e; simp at hk)
 have h1:=hc k (.int .u8 (l[k].toNat:Int)) (by simp [cellsOf,List.getElem?_eq_getElem hk])
 have h0:=hc 0 (.int .u8 (l[0].toNat:Int)) (by simp [cellsOf,List.getElem?_eq_getElem (show 0<l.length by omega)])
 have hs:(ad.add 0).spot=none:=World.cell?_spot h0
 obtain ⟨g,off,sp⟩:=ad
 have hsp:sp=none:=by
  cases sp with
  | none=>rfl
  | some p=>simp [Addr.add] at hs
 subst hsp
 rw [Addr.add_lit] at h1
 exact ⟨g,off,c,rfl,h1⟩
theorem Rd.shape {w:World} {v:Value} {l:List UInt8} (h:Rd w v l):∃ A c,v=.slice A l.length c:=by
 obtain ⟨A,c,rfl,_⟩:=h
 exact ⟨A,c,rfl⟩

theorem Rd.lt {w:World} {v:Value} {l:List UInt8} (h:Rd w v l) (hl:l≠[]):∀ k,v.ownBlock=some k→k<w.heap.size:=by
 intro k hk
 obtain ⟨A,c,rfl,hc⟩:=h
 obtain ⟨ad,rfl,hb,_⟩:=hc hl
 have:ad.block=k:=by simpa [Value.ownBlock] using hk
 omega

theorem X6:(Tryz.prog.info? 5).map (fun i=>(i.zero,i.size,i.bytes))=some (some (.int .u8 0),1,1):=by kernel_rfl

def le (x:Nat):Nat→List UInt8
 | 0=>[]
 | k+1=>le x k++[UInt8.ofNat (x / 256 ^ k)]
theorem yi (x k:Nat):(le x k).length=k:=by
 induction k with
 | zero=>rfl
 | succ k ih=>simp [le,ih]

def Wtr (w:World) (B:Nat) (v:Value) (bs:List UInt8):Prop :=
 w.heap[B]? = some (.cells #[v] 156 (0,0))∧w.ownsRow 0 5 1 v bs.length (cellsOf bs)

def fy (w:World) (B:Nat) (v:Value) (bs:List UInt8) (w':World):Prop :=
 ∃ v',Wtr w' B v' bs∧(v'.ownBlock=v.ownBlock∨∃ k,v'.ownBlock=some k∧w.heap.size≤k)∧zg (fun i=>i=B∨v.ownBlock=some i) w w'

def Wrote (w:World) (B:Nat) (v:Value) (bs:List UInt8) (e:Ending) (w':World):Prop :=
 e=.returned (.pointer (some ⟨B,0,none⟩))∧fy w B v bs w'

theorem Wtr.ne {w:World} {B:Nat} {v:Value} {bs:List UInt8} (h:Wtr w B v bs):v.ownBlock≠some B:=by
 rcases h.2.2 with ⟨rfl,_⟩ | ⟨g,cap,cur,rfl,_,hg,_⟩
 ·
  simp [Value.ownBlock]
 ·
  intro he
  have:g=B:=by simpa [Value.ownBlock] using he
  subst this
  have:=h.1.symm.trans hg
  simp at this
theorem Wtr.lt {w:World} {B:Nat} {v:Value} {bs:List UInt8} (h:Wtr w B v bs):B<w.heap.size:=(Array.getElem?_eq_some_iff.1 h.1).1
theorem Wtr.cell {w:World} {B:Nat} {v:Value} {bs:List UInt8} (h:Wtr w B v bs):w.cell? ⟨B,0,none⟩=some v:=by
 rw [cell_of_row w B 0 #[v] _ (0,0) h.1]; rfl
theorem Wtr.free {w:World} {B:Nat} {v:Value} {bs:List UInt8} (h:Wtr w B v bs):w.frozen? ⟨B,0,none⟩=false:=by
 simp [World.frozen?,h.1]

theorem fy.start {w:World} {B:Nat} {v:Value} {bs:List UInt8} (h:Wtr w B v bs):fy w B v bs w:=⟨v,h,.inl rfl,zg.refl _ _⟩
theorem fy.next {w w1 w2:World} {B:Nat} {v v1:Value} {bs2:List UInt8} (h0:v1.ownBlock=v.ownBlock∨∃ k,v1.ownBlock=some k∧w.heap.size≤k)
  (ht:zg (fun i=>i=B∨v.ownBlock=some i) w w1) (h:fy w1 B v1 bs2 w2):fy w B v bs2 w2:=by
 obtain ⟨v2,hw2,h2,t2⟩:=h
 refine ⟨v2,hw2,?_,ht.next t2 ?_⟩
 ·
  rcases h2 with h2 | ⟨k,hk,hkl⟩
  ·
   rcases h0 with h0 | ⟨k,hk,hkl⟩
   ·
    exact .inl (h2.trans h0)
   ·
    exact .inr ⟨k,h2.trans hk,hkl⟩
  ·
   exact .inr ⟨k,hk,Nat.le_trans ht.size hkl⟩
 ·
  intro i hi hs
  rcases hs with hs | hs
  ·
   exact .inl hs
  ·
   rcases h0 with h0 | ⟨k,hk,hkl⟩
   ·
    exact .inr (h0 ▸ hs)
   ·
    rw [hk] at hs
    injection hs with hs
    omega
theorem Wtr.after {w w1 w2:World} {B:Nat} {v:Value} {bs:List UInt8} (h:Wtr w B v bs) (ht:zg (fun _=>False) w w1) (hg:w1.grownBy w2 v.ownBlock) :
  w2.cell? ⟨B,0,none⟩=some v∧w2.frozen? ⟨B,0,none⟩=false:=by
 have hB:w2.heap[B]? = some (.cells #[v] 156 (0,0)) :=
  (hg.block B (Nat.lt_of_lt_of_le h.lt ht.size) (fun e=>h.ne e.symm)).trans ((ht.block B h.lt (fun f=>f)).trans h.1)
 exact ⟨by rw [cell_of_row w2 B 0 #[v] _ (0,0) hB]; rfl,by simp [World.frozen?,hB]⟩
theorem fy.put {w w1 w2:World} {B:Nat} {v v':Value} {bs news:List UInt8} {n:Nat} (h:Wtr w B v bs) (ht:zg (fun _=>False) w w1)
  (hn:n=(bs++news).length) (ho:w2.ownsRow 0 5 1 v' n (cellsOf bs++cellsOf news)) (hg:w1.grownBy w2 v.ownBlock)
  (ha:v'.ownBlock=v.ownBlock∨v'.ownBlock=some w1.heap.size):fy w B v (bs++news) (w2.setCell ⟨B,0,none⟩ v'):=by
 subst hn
 have hB:w2.heap[B]? = some (.cells #[v] 156 (0,0)) :=
  (hg.block B (Nat.lt_of_lt_of_le h.lt ht.size) (fun e=>h.ne e.symm)).trans ((ht.block B h.lt (fun f=>f)).trans h.1)
 have hne:v'.ownBlock≠some B:=by
  rcases ha with ha | ha
  ·
   rw [ha]; exact h.ne
  ·
   rw [ha]; intro e; injection e with e; have:=h.lt; have:=ht.size; omega
 have ht2:zg (fun i=>i=B∨v.ownBlock=some i) w w2:=(ht.mono (fun _ _ f=>f.elim)).grown hg (fun k hk _=>.inr hk)
 refine ⟨v',⟨?_,?_⟩,?_,ht2.setCell (fun _=>.inl rfl) v'⟩
 ·
  simp [World.setCell,Array.getElem?_modify,hB]
 ·
  rw [fw]
  refine ⟨by simpa using ho.1,?_⟩
  rcases ho.2 with h0 | ⟨g,cap,cur,rfl,hb,hgg,rest⟩
  ·
   exact .inl h0
  ·
   refine .inr ⟨g,cap,cur,rfl,hb,?_,rest⟩
   rw [Below.heap_setCell _ _ _ _ (fun e=>hne (by rw [show g=B from e]; rfl))]
   exact hgg
 ·
  rcases ha with ha | ha
  ·
   exact .inl ha
  ·
   exact .inr ⟨_,ha,ht.size⟩

theorem shr_byte (x k:Nat):(x:Int) / 2 ^ (8 * (k:Int)).toNat=((x / 256 ^ k:Nat):Int):=by
 rw [show (8 * (k:Int)).toNat=8 * k by omega,Int.natCast_ediv,Int.natCast_pow,Int.pow_mul]
 rfl
theorem wrap_byte (q:Nat):IntKind.u8.wrap (q:Int)=((UInt8.ofNat q).toNat:Int):=by
 simp [IntKind.wrap_u8']
theorem src_one (w:World) (b:UInt8):Src Tryz.prog 1 62 (.slice (some ⟨w.heap.size,0,none⟩) 1 1) 1 (cellsOf [b]) (w.alloc (.cells #[.int .u8 b.toNat] 5)).drew :=
 Src.ofSlice _ Tryz.underlying62 _ 1 1 _ rfl (cell_one_new _ _ _) (Vi _)

set_option maxRecDepth 100000 in
theorem Fb (B:Nat) (v:Value) (bs:List UInt8) (x size:Nat) (w:World) (h:Wtr w B v bs) (hx:x<18446744073709551616) (hsize:size≤8) (hroom:bs.length+8≤1099511627776) :
  Calls Tryz.prog 112 #[.pointer (some ⟨B,0,none⟩),.int .u64 x,.int .i64 size] w (Wrote w B v (bs++le x size)):=by
 obtain ⟨i0,hi,hz0,hz1,hz2⟩:=info_parts X6
 have HX:=za hx
 clear hx
 go_enter Tryz.func112,Tryz.ntmps112
 go_wp2
 go_loopw [9] (fun c wr=>∃ k:Nat,k≤size∧c=.int .i64 k∧fy w B v (bs++le x k) wr) (fun c _=>size - (intOf c).toNat)
 case atStart=>exact ⟨0,Nat.zero_le _,rfl,by simpa [le] using fy.start h⟩
 case round =>
  obtain ⟨k,hk,rfl,v1,hw1,ho1,ht1⟩:=hrel
  have hc:=hw1.cell
  have hf:=hw1.free
  have hca:∀ o,(wr.alloc o).cell? ⟨B,0,none⟩=some v1:=fun o=>(World.cell?_alloc_lt wr o _ hw1.lt).trans hc
  have HW:=za hw1
  have HT:=za ht1
  have HO:=za ho1
  clear hw1 ht1 ho1
  by_cases hlt:k<size
  ·
   obtain ⟨b,HB⟩:∃ b,Hid (b=UInt8.ofNat (x / 256 ^ k)):=⟨_,rfl⟩
   have hll:=yi x k
   have hsh:=shr_byte x k
   have hcv:=wrap_byte (x / 256 ^ k)
   rw [← HB.out] at hcv
   have hmul:IntKind.i64.wrap (8 * (k:Int))=8 * (k:Int):=IntWalk.i64_in _ (by omega)
   generalize x / 256 ^ k=q at hsh hcv
   go_wp2
   go_region_law ((refine Xf _ (by rfl) (.tmp 16) (.tmp 22) 62 62 (by rfl) 5 i0 _ 1 1 Tryz.underlying62 hi hz0 hz1 hz2 rfl v1 (bs++le x k).length (cellsOf (bs++le x k)) (by rfl) ((HW.out.2.alloc _).drew) (.slice (some ⟨wr.heap.size,0,none⟩) 1 1) 1 (cellsOf [b]) (by rfl) (src_one wr b) (by simp [maxLen,hll]; omega) (by simp [hll]; omega) ?_; intro A2 c2 w2 ho2 hg2 ha2; obtain ⟨hc2,hf2⟩:=HW.out.after (((zg.refl _ _).alloc _).drew) hg2))
   all_goals
    have e2:(bs++le x k).length+1=bs.length+k+1:=by simp [hll]
    rw [e2] at ho2 ha2
    have R:fy w B v (bs++le x (k+1)) (w2.setCell ⟨B,0,none⟩ (.slice A2 (bs.length+k+1) c2)):=by
     have hp:=fy.put HW.out (((zg.refl _ _).alloc _).drew) (by simp [hll]; omega) ho2 hg2 ha2
     rw [List.append_assoc,show le x k++[b]=le x (k+1) from by rw [le,HB.out]] at hp
     exact fy.next HO.out HT.out hp
    clear ho2 hg2 ha2 hc2 hf2 e2 hcv hsh hmul hll HB HW HT HO hc hf hca
    have hR:=za R
    clear R
    go_wp2
    go_roundw
    case rel=>exact ⟨k+1,by omega,by go_num,hR.out⟩
    case measure=>simp [intOf]; omega
  ·
   obtain rfl:k=size:=by omega
   go_wp2
   go_ret
   exact ⟨rfl,_,HW.out,HO.out,HT.out⟩

theorem Fc (B:Nat) (v:Value) (bs:List UInt8) (xi si:Int) (x size:Nat) (w:World) (h:Wtr w B v bs) (ex:xi=x) (es:si=size) (hx:x<18446744073709551616) (hsize:size≤8) (hroom:bs.length+8≤1099511627776) :
  Calls Tryz.prog 112 #[.pointer (some ⟨B,0,none⟩),.int .u64 xi,.int .i64 si] w (Wrote w B v (bs++le x size)):=by
 subst ex
 subst es
 exact Fb B v bs x size w h hx hsize hroom
set_option maxRecDepth 100000 in
theorem ff (B:Nat) (v:Value) (bs:List UInt8) (x:Nat) (w:World) (h:Wtr w B v bs) (hx:x<256) (hroom:bs.length+8≤1099511627776) :
  Calls Tryz.prog 79 #[.pointer (some ⟨B,0,none⟩),.int .u8 x] w (Wrote w B v (bs++le x 1)):=by
 go_enter Tryz.func79,Tryz.ntmps79
 go_wp2_with fail
 with_reducible refine (Fc B v bs _ _ x 1 w h (by simp) (by simp) (by omega) (by omega) hroom).mono ?_
 rintro e w' ⟨rfl,hw⟩
 go_wp2
 go_ret
 exact ⟨rfl,hw⟩
set_option maxRecDepth 100000 in
theorem jw (B:Nat) (v:Value) (bs:List UInt8) (x:Nat) (w:World) (h:Wtr w B v bs) (hx:x<65536) (hroom:bs.length+8≤1099511627776) :
  Calls Tryz.prog 113 #[.pointer (some ⟨B,0,none⟩),.int .u16 x] w (Wrote w B v (bs++le x 2)):=by
 go_enter Tryz.func113,Tryz.ntmps113
 go_wp2_with fail
 with_reducible refine (Fc B v bs _ _ x 2 w h (by simp) (by simp) (by omega) (by omega) hroom).mono ?_
 rintro e w' ⟨rfl,hw⟩
 go_wp2
 go_ret
 exact ⟨rfl,hw⟩
theorem two_at (B:Nat) (v:Value) (bs:List UInt8) (xi:Int) (x:Nat) (w:World) (h:Wtr w B v bs) (ex:xi=x) (hx:x<65536) (hroom:bs.length+8≤1099511627776) :
  Calls Tryz.prog 113 #[.pointer (some ⟨B,0,none⟩),.int .u16 xi] w (Wrote w B v (bs++le x 2)):=ex ▸ jw B v bs x w h hx hroom
set_option maxRecDepth 100000 in
theorem truth_calls (B:Nat) (v:Value) (bs:List UInt8) (is:Bool) (w:World) (h:Wtr w B v bs) (hroom:bs.length+8≤1099511627776) :
  Calls Tryz.prog 312 #[.pointer (some ⟨B,0,none⟩),.bool is] w (Wrote w B v (bs++le is.toNat 1)):=by
 have hb:=fun (x:Nat) (xi:Int) (hx:x<256) (e:xi=x)=>e ▸ ff B v bs x w h hx hroom
 have HB:=za hb
 clear hb
 cases is
 ·
  go_enter Tryz.func312,Tryz.ntmps312
  go_wp2_with fail
  with_reducible refine (HB.out 0 _ (by omega) (by simp)).mono ?_
  rintro e w' ⟨rfl,hw⟩
  go_wp2
  go_ret
  exact ⟨rfl,hw⟩
 ·
  go_enter Tryz.func312,Tryz.ntmps312
  go_wp2_with fail
  with_reducible refine (HB.out 1 _ (by omega) (by simp)).mono ?_
  rintro e w' ⟨rfl,hw⟩
  go_wp2
  go_ret
  exact ⟨rfl,hw⟩

set_option maxRecDepth 100000 in
theorem jS (B:Nat) (v:Value) (bs:List UInt8) (s:ByteArray) (w:World) (h:Wtr w B v bs) (hs:s.size≤65535) (hroom:bs.length+65545≤1099511627776) :
  Calls Tryz.prog 80 #[.pointer (some ⟨B,0,none⟩),.string s] w (Wrote w B v (bs++(le s.size 2++s.data.toList))):=by
 obtain ⟨i0,hi,hz0,hz1,hz2⟩:=info_parts X6
 go_enter Tryz.func80,Tryz.ntmps80
 go_wp2_with fail
 with_reducible refine (jw B v bs s.size w h (by omega) (by omega)).mono ?_
 rintro e w1 ⟨rfl,v1,hw1,ho1,ht1⟩
 have hc:=hw1.cell
 have hf:=hw1.free
 have hll:=yi s.size 2
 have HW:=za hw1
 have HT:=za ht1
 have HO:=za ho1
 clear hw1 ht1 ho1
 go_wp2_with (at_builtin; refine vj _ rfl (.tmp 19) (.tmp 20) 62 9 (by rfl) 5 i0 _ 1 1 Tryz.underlying62 hi hz0 hz1 hz2 rfl v1 (bs++le s.size 2).length (cellsOf (bs++le s.size 2)) (by rfl) HW.out.2 (.string s) s.size (cellsOf s.data.toList) (by rfl) (Src.ofString _ Tryz.underlying9 s) (by simp [maxLen,hll]; omega) (by simp [hll]; omega) ?_; intro A2 c2 w2 ho2 hg2 ha2; obtain ⟨hc2,hf2⟩:=HW.out.after (zg.refl _ _) hg2)
 have e2:(bs++le s.size 2).length+s.size=bs.length+2+s.size:=by simp [hll]
 rw [e2] at ho2 ha2
 have R:fy w B v (bs++(le s.size 2++s.data.toList)) (w2.setCell ⟨B,0,none⟩ (.slice A2 (bs.length+2+s.size) c2)):=by
  have hp:=fy.put HW.out (zg.refl _ _) (by simp only [List.length_append,hll,YF]) ho2 hg2 ha2
  rw [List.append_assoc] at hp
  exact fy.next HO.out HT.out hp
 go_ret
 exact ⟨rfl,R⟩

def Fresh (w:World) (l:List UInt8) (e:Ending) (w':World):Prop :=
 ∃ v',e=.returned v'∧w'.ownsRow 0 5 1 v' l.length (cellsOf l)∧(∀ k,v'.ownBlock=some k→w.heap.size≤k)∧zg (fun _=>False) w w'

set_option maxRecDepth 100000 in
theorem clone_calls (u:Value) (l:List UInt8) (w:World) (hu:Rd w u l) (hroom:l.length≤1099511627776) :
  Calls Tryz.prog 114 #[u] w (Fresh w l):=by
 obtain ⟨i0,hi,hz0,hz1,hz2⟩:=info_parts X6
 have HU:=za hu
 obtain ⟨A,c,rfl,hc⟩:=hu
 cases A with
 | none =>
  have hl:l=[]:=by
   by_cases hl:l=[]
   ·
    exact hl
   ·
    obtain ⟨ad,h,_⟩:=hc hl
    cases h
  subst hl
  clear hc HU
  have hnil:=fun W=>Lib.run_eql_slice_nil (P:=Tryz.prog) W 62 5 none 0 c 0 0 Tryz.underlying62
  go_enter Tryz.func114,Tryz.ntmps114
  go_wp2
  go_ret
  exact ⟨_,rfl,World.ownsRow_nil _ _ _ _,by simp [Value.ownBlock],zg.refl _ _⟩
 | some ad =>
  clear hc
  have hnil:=fun W=>Lib.run_eql_slice_nil (P:=Tryz.prog) W 62 5 (some ad) l.length c 0 0 Tryz.underlying62
  have hmade:(w.alloc (.cells #[] 5)).ownsRow 0 5 1 (.slice (some ⟨w.heap.size,0,none⟩) 0 0) 0 []:=World.ownsRow_made w #[] 0 (Nat.zero_le _) (Nat.zero_le _) rfl
  have HM:=za hmade
  clear hmade
  go_enter Tryz.func114,Tryz.ntmps114
  go_wp2_with (at_builtin; refine vj _ rfl (.tmp 5) (.tmp 6) 62 62 (by rfl) 5 i0 _ 1 1 Tryz.underlying62 hi hz0 hz1 hz2 rfl (.slice (some ⟨w.heap.size,0,none⟩) 0 0) 0 [] (by rfl) HM.out (.slice (some ad) l.length c) l.length (cellsOf l) (by rfl) ((HU.out.still ((zg.refl _ _).alloc _)).src Tryz.underlying62) (by simp only [maxLen]; omega) (by omega) ?_; intro A2 c2 w2 ho2 hg2 ha2)
  rw [Nat.zero_add] at ho2 ha2
  go_ret
  refine ⟨_,by simp,ho2,?_,?_⟩
  ·
   intro k hk
   rcases ha2 with h2 | h2
   ·
    rw [h2] at hk
    simp [Value.ownBlock] at hk
    omega
   ·
    rw [h2] at hk
    simp at hk
    omega
  ·
   exact ((zg.refl _ _).alloc _).grown hg2 (fun k hk hlt=>by simp [Value.ownBlock] at hk; omega)

set_option maxRecDepth 100000 in
theorem Vk (B:Nat) (v:Value) (bs:List UInt8) (w:World) (h:Wtr w B v bs) (hroom:bs.length≤1099511627776) :
  Calls Tryz.prog 81 #[.pointer (some ⟨B,0,none⟩)] w (Fresh w bs):=by
 have hc:=h.cell
 have HR:=za (Rd.of_own h.2)
 clear h
 go_enter Tryz.func81,Tryz.ntmps81
 go_wp2_with fail
 with_reducible refine (clone_calls v bs w HR.out hroom).mono ?_
 rintro e w1 ⟨v1,rfl,ho,hb,ht⟩
 obtain ⟨A,c,rfl⟩:=yI ho
 have HO:=za ho
 have HB:=za hb
 have HT:=za ht
 clear ho hb ht
 go_wp2
 go_ret
 exact ⟨_,rfl,HO.out,HB.out,HT.out⟩

def RdS (w:World) (A:Option Addr) (ss:List ByteArray):Prop :=
 ss≠[]→∃ b off,A=some ⟨b,off,none⟩∧b<w.heap.size∧∀ j (hj:j<ss.length),w.cell? ⟨b,off+j,none⟩=some (.string ss[j])
theorem RdS.turns {S:Nat→Prop} {w w':World} {A:Option Addr} {ss:List ByteArray} (h:RdS w A ss) (ht:zg S w w') (hn:ss≠[]→∀ a,A=some a→¬ S a.block):RdS w' A ss:=by
 intro hne
 obtain ⟨b,off,rfl,hb,hc⟩:=h hne
 exact ⟨b,off,rfl,Nat.lt_of_lt_of_le hb ht.size,fun j hj=>(ht.cell (p:=⟨b,off+j,none⟩) hb (hn hne ⟨b,off,none⟩ rfl)).trans (hc j hj)⟩

def xp (s:ByteArray):List UInt8:=le s.size 2++s.data.toList
def xj (ss:List ByteArray):List UInt8:=ss.flatMap xp
theorem xJ (s:ByteArray):(xp s).length=s.size+2:=by
 simp only [xp,List.length_append,yi,YF]; omega
theorem textsB_snoc (ss:List ByteArray) (k:Nat) (hk:k<ss.length):xj (ss.take (k+1))=xj (ss.take k)++xp ss[k]:=by
 unfold xj
 rw [List.take_succ_eq_append_getElem hk,List.flatMap_append,List.flatMap_singleton]
theorem Qd (ss:List ByteArray) (h:∀ s∈ss,s.size≤65535):(xj ss).length≤65537 * ss.length:=by
 induction ss with
 | nil=>simp [xj]
 | cons s ss ih =>
  have h1:=ih (fun t ht=>h t (List.mem_cons_of_mem _ ht))
  have h2:=h s (List.mem_cons_self ..)
  have h3:(xj (s::ss)).length=(xp s).length+(xj ss).length:=by simp [xj]
  rw [h3,xJ,List.length_cons]
  omega
theorem qr (ss:List ByteArray) (k:Nat) (h:∀ s∈ss,s.size≤65535) (hk:k≤65535):(xj (ss.take k)).length≤4294967295:=by
 have:=Qd (ss.take k) (fun s hs=>h s (List.mem_of_mem_take hs))
 have h2:(ss.take k).length≤k:=List.length_take_le _ _
 omega
def rowB (ss:List ByteArray):List UInt8:=le ss.length 2++xj ss

set_option maxRecDepth 100000 in
theorem Xr (B:Nat) (v:Value) (bs:List UInt8) (A:Option Addr) (N c:Nat) (ss:List ByteArray) (w:World) (h:Wtr w B v bs) (hc:N≤c) (hm:c≤9223372036854775807)
  (hN:ss.length=min N 65535) (hr:RdS w A ss) (hA:ss≠[]→∀ a,A=some a→¬ (a.block=B∨v.ownBlock=some a.block)) (hs:∀ s∈ss,s.size≤65535) (hroom:bs.length≤549755813888) :
  Calls Tryz.prog 179 #[.pointer (some ⟨B,0,none⟩),.slice A N c] w (Wrote w B v (bs++rowB ss)):=by
 have HS:=za hs
 have hN1:ss.length≤65535:=by omega
 have hAt:∀ k,k<ss.length→∀ w',fy w B v (bs++(le ss.length 2++xj (ss.take k))) w'→∃ (b off:Nat) (t:ByteArray),A=some ⟨b,off,none⟩∧w'.cell? ⟨b,off+k,none⟩=some (.string t)∧t.size≤65535∧xj (ss.take (k+1))=xj (ss.take k)++xp t:=by
  intro k hk w' hw
  obtain ⟨v',_,_,ht⟩:=hw
  obtain ⟨b,off,rfl,hb,hcell⟩:=hr.turns ht hA (by intro e; subst e; simp at hk)
  exact ⟨b,off,ss[k],rfl,hcell k hk,hs _ (List.getElem_mem hk),textsB_snoc ss k hk⟩
 have HAt:=za hAt
 clear hr hA hs hAt
 have fin:∀ w',fy w B v (bs++(le ss.length 2++xj (ss.take ss.length))) w'→fy w B v (bs++rowB ss) w':=by
  intro w' h
  rwa [List.take_length] at h
 have HF:=za fin
 clear fin
 rcases Nat.lt_or_ge 65535 N with hl | hl
 ·
  have hn:ss.length=65535:=by omega
  clear hN
  generalize ss.length=n at *
  have HM:=za hn
  clear hn
  go_enter Tryz.func179,Tryz.ntmps179
  go_wp2_with fail
  with_reducible refine (two_at B v bs _ n w h (by rw [HM.out]; simp) (by rw [HM.out]; omega) (by omega)).mono ?_
  rintro e w1 ⟨rfl,hw1⟩
  have HW1:=za hw1
  clear hw1
  go_wp2
  have e1:(65535:Nat)=n:=HM.out.symm
  have e2:(65535:Int)=(n:Int):=by rw [HM.out]; simp
  rw [e1,e2]
  clear e1 e2
  go_loopw [19] (fun i wr=>∃ k:Nat,k≤n∧i=.int .i64 k∧fy w B v (bs++(le n 2++xj (ss.take k))) wr) (fun i _=>n - (intOf i).toNat)
  case atStart=>exact ⟨0,Nat.zero_le _,rfl,by simpa [xj] using HW1.out⟩
  case round =>
   obtain ⟨k,hk,rfl,hwr⟩:=hrel
   by_cases hlt:k<n
   ·
    obtain ⟨b,off,t,rfl,hcell,ht,hsn⟩:=HAt.out k hlt wr hwr
    have hlen:(xj (ss.take k)).length≤4294967295:=qr ss k HS.out (by omega)
    have HSN:=za hsn
    have HL:=za hlen
    obtain ⟨v1,hv1,ho1,ht1⟩:=hwr
    have HV:=za hv1
    have HO:=za ho1
    have HT:=za ht1
    clear hsn hlen hv1 ho1 ht1 HAt HF
    go_wp2_with fail
    have hll:=yi n 2
    have hlb:=HL.out
    have hrm:(bs++(le n 2++xj (ss.take k))).length+65545≤1099511627776:=by simp only [List.length_append,hll]; omega
    have HRM:=za hrm
    have HTS:=za ht
    clear hrm
    with_reducible refine (jS B v1 _ t wr HV.out HTS.out HRM.out).mono ?_
    rintro e w2 ⟨rfl,hw2⟩
    have R:fy w B v (bs++(le n 2++xj (ss.take (k+1)))) w2:=by
     have:=fy.next HO.out HT.out hw2
     rw [HSN.out]
     simpa [xp,List.append_assoc] using this
    have HR:=za R
    clear R hw2 hll hlb hcell
    go_wp2
    go_roundw
    case rel=>exact ⟨k+1,by omega,by go_num,HR.out⟩
    case measure=>simp [intOf]; omega
   ·
    obtain rfl:k=n:=by omega
    have hfin:=HF.out wr hwr
    have HFN:=za hfin
    clear hfin hwr
    go_wp2
    go_ret
    exact ⟨rfl,HFN.out⟩
 ·
  obtain rfl:ss.length=N:=by omega
  clear hN
  generalize ss.length=n at *
  go_enter Tryz.func179,Tryz.ntmps179
  go_wp2_with fail
  with_reducible refine (jw B v bs n w h (by omega) (by omega)).mono ?_
  rintro e w1 ⟨rfl,hw1⟩
  have HW1:=za hw1
  clear hw1
  go_wp2
  go_loopw [19] (fun i wr=>∃ k:Nat,k≤n∧i=.int .i64 k∧fy w B v (bs++(le n 2++xj (ss.take k))) wr) (fun i _=>n - (intOf i).toNat)
  case atStart=>exact ⟨0,Nat.zero_le _,rfl,by simpa [xj] using HW1.out⟩
  case round =>
   obtain ⟨k,hk,rfl,hwr⟩:=hrel
   by_cases hlt:k<n
   ·
    obtain ⟨b,off,t,rfl,hcell,ht,hsn⟩:=HAt.out k hlt wr hwr
    have hlen:(xj (ss.take k)).length≤4294967295:=qr ss k HS.out (by omega)
    have HSN:=za hsn
    have HL:=za hlen
    obtain ⟨v1,hv1,ho1,ht1⟩:=hwr
    have HV:=za hv1
    have HO:=za ho1
    have HT:=za ht1
    clear hsn hlen hv1 ho1 ht1 HAt HF
    go_wp2_with fail
    have hll:=yi n 2
    have hlb:=HL.out
    have hrm:(bs++(le n 2++xj (ss.take k))).length+65545≤1099511627776:=by simp only [List.length_append,hll]; omega
    have HRM:=za hrm
    have HTS:=za ht
    clear hrm
    with_reducible refine (jS B v1 _ t wr HV.out HTS.out HRM.out).mono ?_
    rintro e w2 ⟨rfl,hw2⟩
    have R:fy w B v (bs++(le n 2++xj (ss.take (k+1)))) w2:=by
     have:=fy.next HO.out HT.out hw2
     rw [HSN.out]
     simpa [xp,List.append_assoc] using this
    have HR:=za R
    clear R hw2 hll hlb hcell
    go_wp2
    go_roundw
    case rel=>exact ⟨k+1,by omega,by go_num,HR.out⟩
    case measure=>simp [intOf]; omega
   ·
    obtain rfl:k=n:=by omega
    have hfin:=HF.out wr hwr
    have HFN:=za hfin
    clear hfin hwr
    go_wp2
    go_ret
    exact ⟨rfl,HFN.out⟩

def xU:List (Option Tmp)→(Nat→Value)→Nat→Act→Act
 | [],_,_,a=>a
 | d::ds,x,k,a=>xU ds x (k+1) (a.put d (x k))
def jo:List (Option Tmp)→Bool
 | []=>true
 | none::r=>jo r
 | some d::r=>!(r.contains (some d)) && jo r
def upd (x:Nat→Value) (i:Nat) (v:Value):Nat→Value:=fun j=>if j=i then v else x j

theorem put_put (a:Act) (d:Option Tmp) (u v:Value):(a.put d u).put d v=a.put d v:=by
 cases d with
 | none=>rfl
 | some d=>simp [Act.put]
theorem putL_put {ds:List (Option Tmp)} {x:Nat→Value} {d:Option Tmp} {v:Value}:∀ {k:Nat} {a:Act},(∀ t,d=some t→some t∉ds)→(xU ds x k a).put d v=xU ds x k (a.put d v):=by
 induction ds with
 | nil=>intro k a _; rfl
 | cons e ds ih =>
  intro k a h
  show (xU ds x (k+1) (a.put e (x k))).put d v=xU ds x (k+1) ((a.put d v).put e (x k))
  rw [ih (fun t ht hm=>h t ht (List.mem_cons_of_mem _ hm)),Act.put_comm]
  intro t he hd
  exact h t hd (he ▸ List.mem_cons_self ..)
theorem putL_congr {ds:List (Option Tmp)} {x y:Nat→Value}:∀ {k:Nat} {a:Act},(∀ j,k≤j→x j=y j)→xU ds x k a=xU ds y k a:=by
 induction ds with
 | nil=>intro _ _ _; rfl
 | cons d ds ih =>
  intro k a h
  show xU ds x (k+1) (a.put d (x k))=xU ds y (k+1) (a.put d (y k))
  rw [h k (Nat.le_refl _),ih (fun j hj=>h j (by omega))]
theorem putL_upd {ds:List (Option Tmp)} {x:Nat→Value} {v:Value}:∀ {i k:Nat} {a:Act} {d:Option Tmp},jo ds=true→ds[i]? = some d→(xU ds x k a).put d v=xU ds (upd x (k+i) v) k a:=by
 induction ds with
 | nil=>intro i k a d _ h; simp at h
 | cons e ds ih =>
  intro i k a d hap hi
  have hap':jo ds=true∧∀ t,e=some t→some t∉ds:=by
   cases e with
   | none=>exact ⟨hap,fun t h=>by cases h⟩
   | some t =>
    simp only [jo,Bool.and_eq_true,Bool.not_eq_true',List.contains_eq_mem,decide_eq_false_iff_not] at hap
    exact ⟨hap.2,fun u hu=>by injection hu with hu; subst hu; exact hap.1⟩
  cases i with
  | zero =>
   have he:e=d:=by simpa using hi
   subst he
   show (xU ds x (k+1) (a.put e (x k))).put e v=xU ds (upd x k v) (k+1) (a.put e (upd x k v k))
   rw [putL_put hap'.2,put_put,show upd x k v k=v from if_pos rfl]
   exact putL_congr (fun j hj=>(if_neg (by omega)).symm)
  | succ i =>
   show (xU ds x (k+1) (a.put e (x k))).put d v=xU ds (upd x (k+(i+1)) v) (k+1) (a.put e (upd x (k+(i+1)) v k))
   rw [ih hap'.1 (by simpa using hi),show upd x (k+(i+1)) v k=x k from if_neg (by omega),show k+1+i=k+(i+1) by omega]

section
variable {P:Program} {ops:Array Oper} {Q:Exit→Act→World→Prop} {md:Region.Mode}

theorem UX {listed:Array Bool} (hsz:listed.size=ops.size) (back:∀ (i:Nat) (o:Oper),ops[i]? = some o→∀ e∈o.after,e.on<i) (h:Region.ready md ops listed=[]) :
  ∀ j,j<ops.size→listed.getD j false=true:=by
 intro j
 induction j using Nat.strongRecOn with
 | _ j ih =>
  intro hj
  cases hl:listed.getD j false with
  | true=>rfl
  | false =>
   exfalso
   have hm:j∈Region.ready md ops listed:=by
    rw [mem_ready]
    refine ⟨?_,ops[j],Array.getElem?_eq_getElem hj,fun e he _=>ih e.on (back j _ (Array.getElem?_eq_getElem hj) e he) (Nat.lt_trans (back j _ (Array.getElem?_eq_getElem hj) e he) hj)⟩
    have hlt:j<listed.size:=by omega
    simpa [Array.getD_eq_getD_getElem?,Array.getElem?_eq_getElem hlt] using hl
   rw [h] at hm
   cases hm

def fB (md:Region.Mode) (ops:Array Oper) (L:Nat→Bool):Prop:=∀ (j:Nat) (o:Oper),ops[j]? = some o→L j=true→∀ d,(o.after.toList.any fun e=>Region.binds md e && e.on == d)=true→L d=true
def ud (L:Nat→Bool) (i:Nat):Nat→Bool:=fun j=>if j=i then true else L j

theorem wpAny_inv (a:Act) (Y:Nat→Value→World→Prop) (G:(Nat→Bool)→World→Prop) (hap:jo (ops.toList.map (·.dst))=true)
  (back:∀ (i:Nat) (o:Oper),ops[i]? = some o→∀ e∈o.after,e.on<i)
  (step:∀ (i:Nat) (o:Oper),ops[i]? = some o→∀ (L:Nat→Bool) (x:Nat→Value) (w:World),L i=false→(∀ d,(o.after.toList.any fun e=>Region.binds md e && e.on == d)=true→L d=true)→fB md ops L→G L w→(∀ j,L j=true→Y j (x j) w) →
   ∀ K:Act→World→Prop,(∀ v w',Y i v w'→G (ud L i) w'→(∀ j,L j=true→Y j (x j) w→Y j (x j) w')→K ((xU (ops.toList.map (·.dst)) x 0 a).put o.dst v) w') →
    if Region.wanted o (yielded ops (xU (ops.toList.map (·.dst)) x 0 a).tmps)=true then Oper.wp P o (xU (ops.toList.map (·.dst)) x 0 a) w K Q else K ((xU (ops.toList.map (·.dst)) x 0 a).put o.dst undef) w)
  (fin:∀ (L:Nat→Bool) (x:Nat→Value) (w:World),(∀ j,j<ops.size→L j=true)→G L w→(∀ j,j<ops.size→Y j (x j) w)→Q .normal (xU (ops.toList.map (·.dst)) x 0 a) w) :
  ∀ (fuel:Nat) (listed:Array Bool) (x:Nat→Value) (w:World),listed.size=ops.size→listed.toList.count false≤fuel→fB md ops (fun j=>listed.getD j false)→G (fun j=>listed.getD j false) w→(∀ j,listed.getD j false=true→Y j (x j) w) →
   wpAny P md ops Q fuel listed (xU (ops.toList.map (·.dst)) x 0 a) w:=by
 intro fuel
 induction fuel with
 | zero =>
  intro listed x w hsz hc hcl hG hY
  have hall:∀ j,j<ops.size→listed.getD j false=true:=by
   intro j hj
   cases hl:listed.getD j false with
   | true=>rfl
   | false =>
    exfalso
    have hlt:j<listed.size:=by omega
    have:false∈listed.toList:=by
     rw [List.mem_iff_getElem]
     exact ⟨j,by simpa using hlt,by simpa [Array.getD_eq_getD_getElem?,Array.getElem?_eq_getElem hlt] using hl⟩
    have:=List.count_pos_iff.2 this
    omega
  refine ⟨?_,fin _ x w hall hG (fun j hj=>hY j (hall j hj))⟩
  rw [List.eq_nil_iff_forall_not_mem]
  intro j hj
  rw [mem_ready] at hj
  obtain ⟨h0,o,ho,_⟩:=hj
  have hj':=(Array.getElem?_eq_some_iff.1 ho).1
  have:=hall j hj'
  have hlt:j<listed.size:=by omega
  simp [Array.getD_eq_getD_getElem?,Array.getElem?_eq_getElem hlt] at h0 this
  rw [h0] at this
  cases this
 | succ fuel ih =>
  intro listed x w hsz hc hcl hG hY
  refine ⟨fun hr=>fin _ x w (UX hsz back hr) hG (fun j hj=>hY j (UX hsz back hr j hj)),fun i hi=>?_⟩
  have hi':=hi
  rw [mem_ready] at hi'
  obtain ⟨h0,o,ho,hdep⟩:=hi'
  have hlt:i<listed.size:=by have:=(Array.getElem?_eq_some_iff.1 ho).1; omega
  have hfalse:listed[i]=false:=by simpa [Array.getD_eq_getD_getElem?,Array.getElem?_eq_getElem hlt] using h0
  have hdeps:∀ d,(o.after.toList.any fun e=>Region.binds md e && e.on == d)=true→listed.getD d false=true:=by
   intro j hj
   rw [List.any_eq_true] at hj
   obtain ⟨e,he,hb⟩:=hj
   simp only [Bool.and_eq_true,beq_iff_eq] at hb
   obtain ⟨hb1,rfl⟩:=hb
   exact hdep e (by simpa using he) hb1
  have hupd:(fun j=>(listed.setIfInBounds i true).getD j false)=ud (fun j=>listed.getD j false) i:=by
   funext j
   unfold ud
   by_cases e:j=i
   ·
    subst e; simp [hlt]
   ·
    rw [if_neg e,getD_set_ne false (Ne.symm e)]
  have hs:=step i o ho (fun j=>listed.getD j false) x w (by simp [Array.getD_eq_getD_getElem?,Array.getElem?_eq_getElem hlt,hfalse]) hdeps hcl hG hY (wpAny P md ops Q fuel (listed.setIfInBounds i true)) (by
   intro v w' hy hG' hk
   have hd:(ops.toList.map (·.dst))[i]? = some o.dst:=by simp [ho]
   rw [putL_upd hap hd,Nat.zero_add]
   refine ih _ _ _ (by simpa using hsz) ?_ ?_ ?_ ?_
   ·
    have hcs:=List.count_set (a:=true) (b:=false) (l:=listed.toList) (i:=i) (by simpa using hlt)
    have hpos:0<listed.toList.count false:=List.count_pos_iff.2 (by rw [← hfalse]; simp)
    rw [Array.toList_setIfInBounds,hcs,show listed.toList[i]'(by simpa using hlt)=false from by simpa using hfalse,if_pos (by rfl),if_neg (by decide)]
    omega
   ·
    rw [hupd]
    intro j oj hoj hLj d hd
    unfold ud at hLj ⊢
    by_cases e:d=i
    ·
     rw [if_pos e]
    ·
     rw [if_neg e]
     by_cases ej:j=i
     ·
      subst ej
      rw [ho] at hoj
      injection hoj with hoj
      subst hoj
      exact hdeps d hd
     ·
      rw [if_neg ej] at hLj
      exact hcl j oj hoj hLj d hd
   ·
    rw [hupd]; exact hG'
   ·
    intro j hj
    by_cases e:j=i
    ·
     subst e; rw [show upd x j v j=v from if_pos rfl]; exact hy
    ·
     rw [show upd x i v j=x j from if_neg e]
     rw [getD_set_ne false (Ne.symm e)] at hj
     exact hk j hj (hY j hj))
  unfold wpOp
  rw [ho]
  by_cases hw:Region.wanted o (yielded ops (xU (ops.toList.map (·.dst)) x 0 a).tmps)=true
  ·
   rw [if_pos hw] at hs
   simp only [hw,if_true]
   exact .inl hs
  ·
   rw [if_neg hw] at hs
   simp only [hw]
   exact hs

def ownAt (a:Act):Option Tmp→Value
 | some d=>a.tmps.getD d undef
 | none=>undef
theorem put_own (a:Act) (d:Option Tmp):a.put d (ownAt a d)=a:=by
 cases d with
 | none=>rfl
 | some d =>
  have:a.tmps.setIfInBounds d (a.tmps.getD d undef)=a.tmps:=by
   apply Array.ext
   ·
    simp
   ·
    intro i h1 h2
    rw [Array.getElem_setIfInBounds]
    split
    ·
     rename_i h; subst h; simp [Array.getD_eq_getD_getElem?,Array.getElem?_eq_getElem h2]
    ·
     rfl
  simp only [Act.put,ownAt,this]
theorem putL_own {ds:List (Option Tmp)} {x:Nat→Value} {a:Act}:∀ {k:Nat},(∀ i d,ds[i]? = some d→x (k+i)=ownAt a d)→xU ds x k a=a:=by
 induction ds with
 | nil=>intro _ _; rfl
 | cons d ds ih =>
  intro k h
  show xU ds x (k+1) (a.put d (x k))=a
  rw [show x k=ownAt a d from h 0 d rfl,put_own]
  exact ih (fun i e he=>by have:=h (i+1) e (by simpa using he); rwa [show k+(i+1)=k+1+i by omega] at this)

def AllO (φ:Nat→Oper→Prop):List Oper→Nat→Prop
 | [],_=>True
 | o::r,k=>φ k o∧AllO φ r (k+1)
theorem AllO.at_ {φ:Nat→Oper→Prop}:∀ {l:List Oper} {k:Nat},AllO φ l k→∀ (i:Nat) (o:Oper),l[i]? = some o→φ (k+i) o
 | [],_,_,i,o,h=>by simp at h
 | _::_,_,h,0,o,he=>by
  simp only [List.getElem?_cons_zero,Option.some.injEq] at he
  subst he
  exact h.1
 | _::r,k,h,i+1,o,he=>by
  have:=AllO.at_ h.2 i o (by simpa using he)
  rwa [show k+1+i=k+(i+1) by omega] at this
theorem AllO.mono {φ ψ:Nat→Oper→Prop}:∀ {l:List Oper} {k:Nat},AllO φ l k→(∀ i o,φ i o→ψ i o)→AllO ψ l k
 | [],_,_,_=>trivial
 | _::_,_,h,hm=>⟨hm _ _ h.1,AllO.mono h.2 hm⟩

theorem uq {id:Nat} {w:World} {a:Act} (hm:P.follows .mixedOrders=true) (Y:Nat→Value→World→Prop) (G:(Nat→Bool)→World→Prop) (F:(Nat→Value)→Act) (hF:∀ x,xU (ops.toList.map (·.dst)) x 0 a=F x)
  (hap:jo (ops.toList.map (·.dst))=true) (hback:(ops.toList.zipIdx.all fun p=>p.1.after.all fun e=>decide (e.on<p.2))=true) (hG:G (fun _=>false) w.drew)
  (step:AllO (fun i o=>∀ (L:Nat→Bool) (x:Nat→Value) (w:World),L i=false→(∀ d,(o.after.toList.any fun e=>Region.binds .any e && e.on == d)=true→L d=true)→fB .any ops L→G L w→(∀ j,L j=true→Y j (x j) w) →
   ∀ K:Act→World→Prop,(∀ v w',Y i v w'→G (ud L i) w'→(∀ j,L j=true→Y j (x j) w→Y j (x j) w')→K ((F x).put o.dst v) w') →
    if Region.wanted o (yielded ops (F x).tmps)=true then Oper.wp P o (F x) w K Q else K ((F x).put o.dst undef) w) ops.toList 0)
  (fin:∀ (L:Nat→Bool) (x:Nat→Value) (w:World),(∀ j,j<ops.size→L j=true)→G L w→(∀ j,j<ops.size→Y j (x j) w)→Q .normal (F x) w):(Code.region id ops true).wp P Q a w:=by
 refine wp_region_any hm ?_
 have hb:∀ (i:Nat) (o:Oper),ops[i]? = some o→∀ e∈o.after,e.on<i:=by
  intro i o ho e he
  have hin:(o,i)∈ops.toList.zipIdx:=by
   rw [List.mem_zipIdx_iff_getElem?]
   simpa using ho
  have:=List.all_eq_true.1 hback _ hin
  have:=Array.all_eq_true_iff_forall_mem.1 this e he
  simpa using this
 have h0:(fun j=>(Array.replicate ops.size false).getD j false)=fun _=>false:=by
  funext j
  by_cases h:j<ops.size <;> simp [Array.getD_eq_getD_getElem?,h]
 have:=wpAny_inv (P:=P) (md:=.any) (Q:=Q) a Y G hap hb (fun i o ho L x w h1 h2 h3 h4 h5 K hK=>by
   have hs:=step.at_ i o (by simpa using ho)
   rw [Nat.zero_add] at hs
   rw [hF] at hK ⊢
   exact hs L x w h1 h2 h3 h4 h5 K hK) (fun L x w h1 h2 h3=>by rw [hF]; exact fin L x w h1 h2 h3) ops.size (Array.replicate ops.size false) (fun i=>ownAt a (((ops.toList.map (·.dst))[i]?).getD none)) w.drew (by simp) (by simp)
   (by rw [h0]; intro j o _ h; cases h) (by rw [h0]; exact hG) (by
  intro j hj
  have:=congrFun h0 j
  rw [this] at hj
  cases hj)
 rw [putL_own (fun i d hd=>by rw [Nat.zero_add,hd]; rfl)] at this
 exact this

theorem yg {id:Nat} {w:World} {a:Act} (hm:P.follows .mixedOrders=true) (R:World→Prop) (Y:Nat→Value→World→Prop) (F:(Nat→Value)→Act) (hF:∀ x,xU (ops.toList.map (·.dst)) x 0 a=F x)
  (hap:jo (ops.toList.map (·.dst))=true) (hback:(ops.toList.zipIdx.all fun p=>p.1.after.all fun e=>decide (e.on<p.2))=true) (hR:R w.drew)
  (step:AllO (fun i o=>∀ (x:Nat→Value) (w:World),R w→(∀ j,(o.after.toList.any fun e=>Region.binds .any e && e.on == j)=true→Y j (x j) w) →
   ∀ K:Act→World→Prop,(∀ v w',Y i v w'→R w'→(∀ j u,Y j u w→Y j u w')→K ((F x).put o.dst v) w') →
    if Region.wanted o (yielded ops (F x).tmps)=true then Oper.wp P o (F x) w K Q else K ((F x).put o.dst undef) w) ops.toList 0)
  (fin:∀ (x:Nat→Value) (w:World),R w→(∀ j,j<ops.size→Y j (x j) w)→Q .normal (F x) w):(Code.region id ops true).wp P Q a w :=
 uq hm Y (fun _ w=>R w) F hF hap hback hR (step.mono fun _ _ h _ x w _ hd _ hR hY K hK=>h x w hR (fun j hj=>hY j (hd j hj)) K fun v w' h1 h2 h3=>hK v w' h1 h2 fun j _ h=>h3 j _ h) fun _ x w _ hR hY=>fin x w hR hY
end
def ju (cs:List Nat) (St:Nat→World→Prop) (L:Nat→Bool) (W:World):Prop:=∃ m,m≤cs.length∧St m W∧∀ r,r<cs.length→L (cs.getD r 0)=decide (r<m)
theorem ju.start {cs:List Nat} {St:Nat→World→Prop} {W:World} (h:St 0 W):ju cs St (fun _=>false) W:=⟨0,Nat.zero_le _,h,fun r _=>by simp⟩
theorem ju.same {cs:List Nat} {St:Nat→World→Prop} {L:Nat→Bool} {W W':World} (h:ju cs St L W) (i:Nat) (hi:cs.contains i=false) (hS:∀ m,St m W→St m W'):ju cs St (ud L i) W':=by
 obtain ⟨m,hm,hs,hr⟩:=h
 refine ⟨m,hm,hS m hs,fun r hrl=>?_⟩
 have hne:cs.getD r 0≠i:=by
  intro e
  have hmem:i∈cs:=by
   rw [← e,List.getD_eq_getElem?_getD,List.getElem?_eq_getElem hrl]
   exact List.getElem_mem hrl
  rw [List.contains_eq_mem,decide_eq_false_iff_not] at hi
  exact hi hmem
 rw [show ud L i (cs.getD r 0)=L (cs.getD r 0) from if_neg hne,hr r hrl]
theorem ju.at_ {cs:List Nat} {St:Nat→World→Prop} {L:Nat→Bool} {W:World} (h:ju cs St L W) (q:Nat) (hq:q<cs.length) (hL:L (cs.getD q 0)=false) (hp:q=0∨L (cs.getD (q - 1) 0)=true):St q W:=by
 obtain ⟨m,hm,hs,hr⟩:=h
 have h1:¬ q<m:=by have:=hr q hq; rw [hL] at this; simpa using this.symm
 have h2:m=q:=by
  rcases hp with rfl | hp
  ·
   omega
  ·
   have:=hr (q - 1) (by omega)
   rw [hp] at this
   have:q - 1<m:=by simpa using this.symm
   omega
 rw [← h2]
 exact hs
theorem ju.next {cs:List Nat} {St:Nat→World→Prop} {L:Nat→Bool} {W W':World} (h:ju cs St L W) (q i:Nat) (hq:q<cs.length) (hi:cs.getD q 0=i) (hL:L i=false) (hp:q=0∨L (cs.getD (q - 1) 0)=true)
  (hnd:(List.range cs.length).all (fun r=>r == q || cs.getD r 0 != i)=true) (hS:St (q+1) W'):ju cs St (ud L i) W':=by
 obtain ⟨m,hm,hs,hr⟩:=h
 have h1:¬ q<m:=by have:=hr q hq; rw [hi,hL] at this; simpa using this.symm
 have h2:m=q:=by
  rcases hp with rfl | hp
  ·
   omega
  ·
   have:=hr (q - 1) (by omega)
   rw [hp] at this
   have:q - 1<m:=by simpa using this.symm
   omega
 subst h2
 refine ⟨m+1,by omega,hS,fun r hrl=>?_⟩
 have h3:=List.all_eq_true.1 hnd r (List.mem_range.2 hrl)
 by_cases e:r=m
 ·
  subst e
  rw [hi,show ud L i i=true from if_pos rfl]
  simp
 ·
  have hne:cs.getD r 0≠i:=by
   have e1:(r == m)=false:=by simpa using e
   rw [e1,Bool.false_or,bne_iff_ne] at h3
   exact h3
  rw [show ud L i (cs.getD r 0)=L (cs.getD r 0) from if_neg hne,hr r hrl]
  have:(r<m)↔(r<m+1):=by omega
  simp [this]

def val:List UInt8→Nat
 | []=>0
 | b::l=>b.toNat+256 * val l

structure St where
 bs:List UInt8
 e:Int

def Ym (w:World) (g:Nat):Prop:=∃ cur fr,w.heap[g]? = some (.cells cur 5 fr)
theorem Ym.keep {S:Nat→Prop} {w w':World} {g:Nat} (h:Ym w g) (ht:zg S w w') (hn:¬ S g):Ym w' g:=by
 obtain ⟨cur,fr,h⟩:=h
 exact ⟨cur,fr,(ht.block g (Array.getElem?_eq_some_iff.1 h).1 hn).trans h⟩
def RdR (w:World) (B:Nat) (v:Value) (l:List UInt8):Prop :=
 (v=.slice none 0 0∧l=[]) ∨
 ∃ g off c,v=.slice (some ⟨g,off,none⟩) l.length c∧l.length≤c∧c≤9223372036854775807∧g<w.heap.size∧g≠B∧Ym w g∧∀ j (hj:j<l.length),w.cell? ⟨g,off+j,none⟩=some (.int .u8 (l[j].toNat:Int))

def Rdr (w:World) (B:Nat) (st:St):Prop:=∃ v,w.heap[B]? = some (.cells #[v,.int .i64 st.e] 216 (0,0))∧RdR w B v st.bs
def Did (w:World) (B:Nat) (st:St) (w':World):Prop:=Rdr w' B st∧zg (fun i=>i=B) w w'

theorem RdR.turns {w w':World} {B:Nat} {v:Value} {l:List UInt8} (h:RdR w B v l) (ht:zg (fun i=>i=B) w w'):RdR w' B v l:=by
 rcases h with h | ⟨g,off,c,rfl,h1,h2,h3,h4,hbk,h5⟩
 ·
  exact .inl h
 ·
  exact .inr ⟨g,off,c,rfl,h1,h2,Nat.lt_of_lt_of_le h3 ht.size,h4,hbk.keep ht h4,fun j hj=>(ht.cell (p:=⟨g,off+j,none⟩) h3 h4).trans (h5 j hj)⟩
theorem RdR.rd {w:World} {B:Nat} {v:Value} {l:List UInt8} (h:RdR w B v l):Rd w v l:=by
 rcases h with ⟨rfl,rfl⟩ | ⟨g,off,c,rfl,h1,h2,h3,h4,hbk,h5⟩
 ·
  exact ⟨none,0,rfl,fun h=>absurd rfl h⟩
 ·
  refine ⟨_,c,rfl,fun _=>⟨_,rfl,h3,fun j u hu=>?_⟩⟩
  have hj:j<l.length:=by have:=(List.getElem?_eq_some_iff.1 hu).1; rwa [qI] at this
  rw [Addr.add_lit,h5 j hj,← hu]
  simp [cellsOf,List.getElem?_eq_getElem hj]
theorem RdR.nil (w:World) (B:Nat):RdR w B (.slice none 0 0) []:=.inl ⟨rfl,rfl⟩

theorem Rdr.lt {w:World} {B:Nat} {st:St} (h:Rdr w B st):B<w.heap.size:=by
 obtain ⟨v,h,_⟩:=h
 exact (Array.getElem?_eq_some_iff.1 h).1
theorem Rdr.kept {S:Nat→Prop} {w w':World} {B:Nat} {st:St} (h:Rdr w B st) (ht:zg S w w') (hn:∀ k,¬ S k):Rdr w' B st:=by
 obtain ⟨v,h1,h2⟩:=h
 refine ⟨v,(ht.block B (Array.getElem?_eq_some_iff.1 h1).1 (hn B)).trans h1,?_⟩
 rcases h2 with h | ⟨g,off,c,rfl,h1,h2,h3,h4,hbk,h5⟩
 ·
  exact .inl h
 ·
  exact .inr ⟨g,off,c,rfl,h1,h2,Nat.lt_of_lt_of_le h3 ht.size,h4,hbk.keep ht (hn _),fun j hj=>(ht.cell (p:=⟨g,off+j,none⟩) h3 (hn _)).trans (h5 j hj)⟩
theorem Rdr.still {w w':World} {B:Nat} {st:St} (h:Rdr w B st) (ht:zg (fun _=>False) w w'):Rdr w' B st:=h.kept ht (fun _ f=>f)
theorem Did.refl {w:World} {B:Nat} {st:St} (h:Rdr w B st):Did w B st w:=⟨h,zg.refl _ _⟩
theorem Did.next {w w1 w2:World} {B:Nat} {st1 st2:St} (h:Did w B st1 w1) (k:Did w1 B st2 w2):Did w B st2 w2:=⟨k.1,h.2.next k.2 (fun _ _ h=>h)⟩


def failS (st:St) (e:Int):St:=if e=0∨st.e≠0 then st else ⟨[],e⟩
def takeS (st:St) (n:Nat):St×List UInt8:=if st.bs.length<n then (failS st 2,[]) else (⟨st.bs.drop n,st.e⟩,st.bs.take n)




theorem RdR.shape {w:World} {B:Nat} {v:Value} {l:List UInt8} (h:RdR w B v l):∃ A c,v=.slice A l.length c:=by
 rcases h with ⟨rfl,rfl⟩ | ⟨g,off,c,rfl,_⟩
 ·
  exact ⟨none,0,rfl⟩
 ·
  exact ⟨_,c,rfl⟩
theorem RdR.cut {w:World} {B g off c n:Nat} {l:List UInt8} (h2:c≤9223372036854775807) (h3:g<w.heap.size) (h4:g≠B) (hbk:Ym w g)
  (h5:∀ j (hj:j<l.length),w.cell? ⟨g,off+j,none⟩=some (.int .u8 (l[j].toNat:Int))) (hn:n≤l.length) (off' c' n':Nat) (hc:n'≤c') (hcc:c'≤c) (hn':n'=l.length - n) (ho:n'=0∨off'=off+n) :
  RdR w B (.slice (some ⟨g,off',none⟩) n' c') (l.drop n):=by
 refine .inr ⟨g,off',c',by rw [List.length_drop,hn'],by rw [List.length_drop]; omega,by omega,h3,h4,hbk,fun j hj=>?_⟩
 rw [List.length_drop] at hj
 have he:off'=off+n:=by omega
 rw [he,Nat.add_assoc,h5 (n+j) (by omega)]
 simp


def numS (st:St) (size:Nat):St×Nat:=((takeS st size).1,val (takeS st size).2)


theorem RdR.at_ {w:World} {B:Nat} {v:Value} {l:List UInt8} (h:RdR w B v l) (k:Nat) (hk:k<l.length):∃ g off c,v=.slice (some ⟨g,off,none⟩) l.length c∧w.cell? ⟨g,off+k,none⟩=some (.int .u8 (l[k].toNat:Int)):=by
 rcases h with ⟨rfl,rfl⟩ | ⟨g,off,c,rfl,_,_,_,_,_,h5⟩
 ·
  simp at hk
 ·
  exact ⟨g,off,c,rfl,h5 k hk⟩

theorem Did.rdr {w:World} {B:Nat} {st:St} {w':World} (h:Did w B st w'):Rdr w' B st:=h.1


def truthS (st:St):St×Bool:=if 1<(numS st 1).2 then (failS (numS st 1).1 4,false) else ((numS st 1).1,(numS st 1).2 == 1)


def Y5 (st:St) (most:Int):St×Nat:=if max most 0<((numS st 2).2:Int) then (failS (numS st 2).1 3,0) else ((numS st 2).1,(numS st 2).2)


def JG (st:St) (most:Int):St×List UInt8:=takeS (Y5 st most).1 (Y5 st most).2
def Texts (w:World) (B:Nat) (st:St) (l:List UInt8) (e:Ending) (w':World):Prop:=e=.returned (.string ⟨l.toArray⟩)∧Did w B st w'



def rowGo (long:Int):Nat→St→List ByteArray→St×List ByteArray
 | 0,st,acc=>(st,acc)
 | k+1,st,acc=>if (JG st long).1.e≠0 then ((JG st long).1,[]) else rowGo long k (JG st long).1 (acc++[⟨(JG st long).2.toArray⟩])
def rowS (st:St) (most long:Int):St×List ByteArray:=rowGo long (Y5 st most).2 (Y5 st most).1 []


def xZ (ss:List ByteArray):List Value:=ss.map Value.string


theorem jU {w:World} {A:Option Addr} {c:Nat} {ss:List ByteArray} (h:w.ownsRow 0 9 1 (.slice A ss.length c) ss.length (xZ ss)):RdS w A ss:=by
 intro hne
 have hp:0<ss.length:=by cases ss with | nil=>exact absurd rfl hne | cons _ _=>simp
 obtain ⟨g,cap,hv,_,hlt⟩:=h.form hp
 have hA:A=some ⟨g,0,none⟩:=by injection hv
 subst hA
 refine ⟨g,0,rfl,hlt,fun j hj=>?_⟩
 have:=h.cells (g:=g) rfl j (.string ss[j]) (by simp [xZ,List.getElem?_eq_getElem hj])
 rwa [Addr.add_lit] at this



def Ok (st:St):Prop:=st.e≠0→st.bs=[]

theorem zg.set2 {a w:World} (h:zg (fun _=>False) a w) {g:Nat} (hg:a.heap.size≤g) (x y:Value):zg (fun _=>False) a ((w.setCell ⟨g,0,none⟩ x).setCell ⟨g,1,none⟩ y) :=
 (h.setCell (p:=⟨g,0,none⟩) (fun hlt=>by simp at hlt; omega) x).setCell (p:=⟨g,1,none⟩) (fun hlt=>by simp at hlt; omega) y

theorem Ok.fail {st:St} (h:Ok st) (e:Int):Ok (failS st e):=by
 unfold failS
 split
 ·
  exact h
 ·
  exact fun _=>rfl
theorem Ok.take {st:St} (h:Ok st) (n:Nat):Ok (takeS st n).1:=by
 unfold takeS
 split
 ·
  exact h.fail 2
 ·
  intro he
  have:=h he
  show st.bs.drop n=[]
  rw [this]; simp
theorem Ok.num {st:St} (h:Ok st) (n:Nat):Ok (numS st n).1:=h.take n
theorem Ok.len {st:St} (h:Ok st) (most:Int):Ok (Y5 st most).1:=by
 unfold Y5
 split
 ·
  exact (h.num 2).fail 3
 ·
  exact h.num 2
theorem Ok.text {st:St} (h:Ok st) (most:Int):Ok (JG st most).1:=(h.len most).take _
theorem Ok.truth {st:St} (h:Ok st):Ok (truthS st).1:=by
 unfold truthS
 split
 ·
  exact (h.num 1).fail 4
 ·
  exact h.num 1
theorem Ok.rowGo {long:Int}:∀ (k:Nat) (st:St) (acc:List ByteArray),Ok st→Ok (rowGo long k st acc).1
 | 0,_,_,h=>h
 | k+1,st,acc,h=>by
  unfold Go.Proofs.YteegkoicalbkbaaGreatDoor.rowGo
  split
  ·
   exact h.text long
  ·
   exact Ok.rowGo k _ _ (h.text long)
theorem Ok.row {st:St} (h:Ok st) (most long:Int):Ok (rowS st most long).1:=Ok.rowGo _ _ _ (h.len most)


end Go.Proofs.YteegkoicalbkbaaGreatDoor
