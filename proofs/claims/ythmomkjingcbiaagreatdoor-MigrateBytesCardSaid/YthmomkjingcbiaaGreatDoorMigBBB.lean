/-
  The texts that the laws of this seat share, part 2: what the code and the document's own answers tell, walked function by function.
  Conditions: each theorem's own.
-/
import Derived.Test.YthmomkjingcbiaaGreatDoorRows
import Derived.ProofKit
import Derived.OpenShut
import Derived.ChangeOld
import Derived.SliceStrings
import Derived.Deep.Slices
import Derived.Shelf.Small.Bits
import Derived.Shelf.Small.Strs
import Derived.Shelf.Strconv.Itoa0
import Derived.Shelf.LaysM
import Derived.Shelf.Strconv.Clone
import Derived.Shelf.Strings.Search1
import Derived.Shelf.Strings.Search2
import Derived.Shelf.Strings.Search3
import Derived.Shelf.Strings.Cut
import Derived.Shelf.Strings.Count
import Derived.Shelf.Strings.Shaped
import Derived.Shelf.Strings.Prefix
import Derived.Shelf.Strings.Split
import Derived.Shelf.Strings.SplitShaped
import Derived.Shelf.Unicode.DecodeSlow
import Derived.Shelf.Slices.Equal
import Derived.Shelf.Slices.Empties2
import Derived.Ground.SlgnProg
import Derived.Shelf.SlicesE.Equal
import Derived.Ground.SlgfProg
import Derived.Shelf.SlicesE.IndexFunc
import Derived.Shelf.SlicesE.DeleteFunc
import Derived.Ground.SlsfProg
import Derived.Shelf.SlSortCmp.Insertion
import Derived.Ground.GgzProg
import Derived.Shelf.SlIter.Nil
import Derived.Ground.SlmcProg
import Derived.Shelf.SlMaps.Clone
import Derived.Shelf.SlSortCmp.SiftDown1
import Derived.Shelf.SlSortCmp.HeapSort1
import Derived.Shelf.SlSortCmp.Insertion1
import Derived.Shelf.SlSortCmp.Median1
import Derived.Shelf.SlSortCmp.Pivot1
import Derived.Shelf.SlSortCmp.ReverseRange1
import Derived.Shelf.SlSortCmp.PartialInsertion1
import Derived.Shelf.SlSortCmp.PartitionEqual1
import Derived.Shelf.SlSortCmp.Partition1
import Derived.Shelf.SlSortCmp.Pdq1
import Derived.Shelf.SlSortCmp.Whole1
import Derived.Shelf.SlSortCmp.NoneTotal
import Derived.Deep.LoopGhost
import Derived.Shelf.Abstract
import Derived.BigQuiet
import Derived.Lib.SplitLaws
import Derived.Lib.CountLaws
import Derived.Lib.Bytealg
import Derived.Lay
import Derived.SevenTiedAt
import Derived.MakeChecks
import Derived.Shelf.Vars
import Derived.Test.YthmomkjingcbiaaGreatDoorMigBBA
set_option maxHeartbeats 16000000
namespace Go.Proofs.YthmomkjingcbiaaGreatDoor
open Go.ChangeShapes Go.WideShapes Go.ChangeAt Go.RowKit Go.Deep

theorem UR:Tryz.prog.cellsOf 5=1:=by kernel_rfl
def IsBytes (w:World) (A:Option Addr) (len cap:Nat) (bl:List UInt8):Prop:=len=bl.length∧bl.length≤9223372036854775807∧Rd w (.slice A len cap) bl

theorem bytes_in {H:Type} {enc:TypeId×Value→H} {W:World} {base:Nat} {sp:Nat→Bool} {hd:Bool} {fuel:Nat} {a:Option Addr} {len cap:Nat} {x:DataW H×List MemPlace}
  (hf:DataW.trod enc Tryz.prog W base sp hd fuel 22 [.slice a len cap]=some x):∃ bl,IsBytes W a len cap bl:=by
 rcases open_ints Tryz.underlying22 Tryz.underlying5 UR hf with ⟨hcs,_⟩ | ⟨x,l,c,zs,hcs,_,hl,hm,hz,_,hcell,hwz⟩
 ·
  simp at hcs
  obtain ⟨rfl,rfl,rfl⟩:=hcs
  exact ⟨[],rfl,by simp,none,0,rfl,fun h=>absurd rfl h⟩
 ·
  simp at hcs
  obtain ⟨rfl,rfl,rfl⟩:=hcs
  have hlen:len≤zs.length:=by rw [hz]; split <;> omega
  have hlt:((zs.take len).map fun z=>UInt8.ofNat z.toNat).length=len:=by rw [List.length_map,List.length_take]; omega
  have hmx:cap≤9223372036854775807:=by simpa [maxLen] using hm
  refine ⟨(zs.take len).map fun z=>UInt8.ofNat z.toNat,hlt.symm,by omega,some x,cap,by rw [hlt],fun hne=>?_⟩
  have hp:0<zs.length:=by
   rcases Nat.eq_zero_or_pos zs.length with h | h
   ·
    exact absurd (by rw [List.eq_nil_of_length_eq_zero h]; simp) hne
   ·
    exact h
  refine ⟨x,rfl,?_,fun j u hu=>?_⟩
  ·
   have:=World.block_lt_of_cell? W _ (hcell 0 hp)
   rwa [Y4] at this
  ·
   rw [cellsOf,List.map_map,List.getElem?_map] at hu
   obtain ⟨z,hz',rfl⟩:=Option.map_eq_some_iff.1 hu
   obtain ⟨hj,he⟩:=List.getElem?_eq_some_iff.1 hz'
   rw [List.length_take] at hj
   rw [List.getElem_take] at he
   have hj':j<zs.length:=by omega
   rw [hcell j hj']
   have hb:=bounds_u8 (hwz z (by rw [← he]; exact List.getElem_mem hj'))
   simp only [List.getD_eq_getElem?_getD,List.getElem?_eq_getElem hj',he,Function.comp,Option.getD_some,UInt8.toNat_ofNat']
   congr 2
   omega
theorem bytes_of {H:Type} {enc:TypeId×Value→H} {W:World} {base:Nat} {sp:Nat→Bool} {hd:Bool} {a:Option Addr} {len cap:Nat} {d:DataW H} {p:List MemPlace}
  (h:DataW.Trod enc Tryz.prog W base sp hd 22 (.slice a len cap) d p):∃ bl,IsBytes W a len cap bl:=by
 obtain ⟨fuel,hf⟩:=h
 exact bytes_in hf
end Go.Proofs.YthmomkjingcbiaaGreatDoor
namespace Go.Proofs.YthmomkjingcbiaaGreatDoor
open Go.RowKit

section
variable {P:Program} {ops:Array Oper} {Q:Exit→Act→World→Prop} {md:Region.Mode}

theorem QY {listed:Array Bool} (hsz:listed.size=ops.size) (back:∀ (i:Nat) (o:Oper),ops[i]? = some o→∀ e∈o.after,Region.binds md e=true→e.on<i) (h:Region.ready md ops listed=[]) :
  ∀ j,j<ops.size→listed.getD j false=true:=by
 intro j
 induction j using Nat.strongRecOn with
 | _ j ih =>
  intro hj
  cases hl:listed.getD j false with
  | true=>rfl
  | false =>
   exfalso
   have hm:j∈Region.ready md ops listed:=by
    rw [mem_ready]
    refine ⟨?_,ops[j],Array.getElem?_eq_getElem hj,fun e he hb=>ih e.on (back j _ (Array.getElem?_eq_getElem hj) e he hb) (Nat.lt_trans (back j _ (Array.getElem?_eq_getElem hj) e he hb) hj)⟩
    have hlt:j<listed.size:=by omega
    simpa [Array.getD_eq_getD_getElem?,Array.getElem?_eq_getElem hlt] using hl
   rw [h] at hm
   cases hm

theorem Vn (a:Act) (I:(Nat→Bool)→(Nat→Value)→World→Prop) (hap:uv (ops.toList.map (·.dst))=true)
  (back:∀ (i:Nat) (o:Oper),ops[i]? = some o→∀ e∈o.after,Region.binds md e=true→e.on<i)
  (step:∀ (i:Nat) (o:Oper),ops[i]? = some o→∀ (L:Nat→Bool) (x:Nat→Value) (w:World),L i=false→(∀ d,(o.after.toList.any fun e=>Region.binds md e && e.on == d)=true→L d=true)→I L x w →
   ∀ K:Act→World→Prop,(∀ v w',I (yK L i) (upd x i v) w'→K ((xc (ops.toList.map (·.dst)) x 0 a).put o.dst v) w') →
    if Region.wanted o (yielded ops (xc (ops.toList.map (·.dst)) x 0 a).tmps)=true then Oper.wp P o (xc (ops.toList.map (·.dst)) x 0 a) w K Q else K ((xc (ops.toList.map (·.dst)) x 0 a).put o.dst undef) w)
  (fin:∀ (L:Nat→Bool) (x:Nat→Value) (w:World),(∀ j,j<ops.size→L j=true)→I L x w→Q .normal (xc (ops.toList.map (·.dst)) x 0 a) w) :
  ∀ (fuel:Nat) (listed:Array Bool) (x:Nat→Value) (w:World),listed.size=ops.size→listed.toList.count false≤fuel→I (fun j=>listed.getD j false) x w →
   wpAny P md ops Q fuel listed (xc (ops.toList.map (·.dst)) x 0 a) w:=by
 intro fuel
 induction fuel with
 | zero =>
  intro listed x w hsz hc hI
  have hall:∀ j,j<ops.size→listed.getD j false=true:=by
   intro j hj
   cases hl:listed.getD j false with
   | true=>rfl
   | false =>
    exfalso
    have hlt:j<listed.size:=by omega
    have:false∈listed.toList:=by
     rw [List.mem_iff_getElem]
     exact ⟨j,by simpa using hlt,by simpa [Array.getD_eq_getD_getElem?,Array.getElem?_eq_getElem hlt] using hl⟩
    have:=List.count_pos_iff.2 this
    omega
  refine ⟨?_,fin _ x w hall hI⟩
  rw [List.eq_nil_iff_forall_not_mem]
  intro j hj
  rw [mem_ready] at hj
  obtain ⟨h0,o,ho,_⟩:=hj
  have hj':=(Array.getElem?_eq_some_iff.1 ho).1
  have:=hall j hj'
  have hlt:j<listed.size:=by omega
  simp [Array.getD_eq_getD_getElem?,Array.getElem?_eq_getElem hlt] at h0 this
  rw [h0] at this
  cases this
 | succ fuel ih =>
  intro listed x w hsz hc hI
  refine ⟨fun hr=>fin _ x w (QY hsz back hr) hI,fun i hi=>?_⟩
  have hi':=hi
  rw [mem_ready] at hi'
  obtain ⟨h0,o,ho,hdep⟩:=hi'
  have hlt:i<listed.size:=by have:=(Array.getElem?_eq_some_iff.1 ho).1; omega
  have hfalse:listed[i]=false:=by simpa [Array.getD_eq_getD_getElem?,Array.getElem?_eq_getElem hlt] using h0
  have hdeps:∀ d,(o.after.toList.any fun e=>Region.binds md e && e.on == d)=true→listed.getD d false=true:=by
   intro j hj
   rw [List.any_eq_true] at hj
   obtain ⟨e,he,hb⟩:=hj
   simp only [Bool.and_eq_true,beq_iff_eq] at hb
   obtain ⟨hb1,rfl⟩:=hb
   exact hdep e (by simpa using he) hb1
  have hupd:(fun j=>(listed.setIfInBounds i true).getD j false)=yK (fun j=>listed.getD j false) i:=by
   funext j
   unfold yK
   by_cases e:j=i
   ·
    subst e; simp [hlt]
   ·
    rw [if_neg e,getD_set_ne false (Ne.symm e)]
  have hs:=step i o ho (fun j=>listed.getD j false) x w (by simp [Array.getD_eq_getD_getElem?,Array.getElem?_eq_getElem hlt,hfalse]) hdeps hI (wpAny P md ops Q fuel (listed.setIfInBounds i true)) (by
   intro v w' hI'
   have hd:(ops.toList.map (·.dst))[i]? = some o.dst:=by simp [ho]
   rw [Jc hap hd,Nat.zero_add]
   refine ih _ _ _ (by simpa using hsz) ?_ ?_
   ·
    have hcs:=List.count_set (a:=true) (b:=false) (l:=listed.toList) (i:=i) (by simpa using hlt)
    have hpos:0<listed.toList.count false:=List.count_pos_iff.2 (by rw [← hfalse]; simp)
    rw [Array.toList_setIfInBounds,hcs,show listed.toList[i]'(by simpa using hlt)=false from by simpa using hfalse,if_pos (by rfl),if_neg (by decide)]
    omega
   ·
    rw [hupd]; exact hI')
  unfold wpOp
  rw [ho]
  by_cases hw:Region.wanted o (yielded ops (xc (ops.toList.map (·.dst)) x 0 a).tmps)=true
  ·
   rw [if_pos hw] at hs
   simp only [hw,if_true]
   exact .inl hs
  ·
   rw [if_neg hw] at hs
   simp only [hw]
   exact hs

theorem vr {id:Nat} {w:World} {a:Act} (hm:P.follows .mixedOrders=true) (I:(Nat→Bool)→(Nat→Value)→World→Prop) (F:(Nat→Value)→Act) (hF:∀ x,xc (ops.toList.map (·.dst)) x 0 a=F x)
  (hap:uv (ops.toList.map (·.dst))=true) (hback:(ops.toList.zipIdx.all fun p=>p.1.after.all fun e=>!(Region.binds .any e) || decide (e.on<p.2))=true) (hI:∀ x,I (fun _=>false) x w.drew)
  (step:Q2 (fun i o=>∀ (L:Nat→Bool) (x:Nat→Value) (w:World),L i=false→(∀ d,(o.after.toList.any fun e=>Region.binds .any e && e.on == d)=true→L d=true)→I L x w →
   ∀ K:Act→World→Prop,(∀ v w',I (yK L i) (upd x i v) w'→K ((F x).put o.dst v) w') →
    if Region.wanted o (yielded ops (F x).tmps)=true then Oper.wp P o (F x) w K Q else K ((F x).put o.dst undef) w) ops.toList 0)
  (fin:∀ (L:Nat→Bool) (x:Nat→Value) (w:World),(∀ j,j<ops.size→L j=true)→I L x w→Q .normal (F x) w):(Code.region id ops true).wp P Q a w:=by
 refine wp_region_any hm ?_
 have hb:∀ (i:Nat) (o:Oper),ops[i]? = some o→∀ e∈o.after,Region.binds .any e=true→e.on<i:=by
  intro i o ho e he hbd
  have hin:(o,i)∈ops.toList.zipIdx:=by
   rw [List.mem_zipIdx_iff_getElem?]
   simpa using ho
  have:=List.all_eq_true.1 hback _ hin
  have:=Array.all_eq_true_iff_forall_mem.1 this e he
  rw [hbd] at this
  simpa using this
 have h0:(fun j=>(Array.replicate ops.size false).getD j false)=fun _=>false:=by
  funext j
  by_cases h:j<ops.size <;> simp [Array.getD_eq_getD_getElem?,h]
 have:=Vn (P:=P) (md:=.any) (Q:=Q) a I hap hb (fun i o ho L x w h1 h2 h3 K hK=>by
   have hs:=step.at_ i o (by simpa using ho)
   rw [Nat.zero_add] at hs
   rw [hF] at hK ⊢
   exact hs L x w h1 h2 h3 K hK) (fun L x w h1 h2=>by rw [hF]; exact fin L x w h1 h2) ops.size (Array.replicate ops.size false) (fun i=>VX a (((ops.toList.map (·.dst))[i]?).getD none)) w.drew (by simp) (by simp)
   (by rw [h0]; exact hI _)
 rw [XE (fun i d hd=>by rw [Nat.zero_add,hd]; rfl)] at this
 exact this

theorem zE {id:Nat} {w:World} {a:Act} (hm:P.follows .mixedOrders=true) (Y:Nat→Value→World→Prop) (G:(Nat→Bool)→World→Prop) (F:(Nat→Value)→Act) (hF:∀ x,xc (ops.toList.map (·.dst)) x 0 a=F x)
  (hap:uv (ops.toList.map (·.dst))=true) (hback:(ops.toList.zipIdx.all fun p=>p.1.after.all fun e=>!(Region.binds .any e) || decide (e.on<p.2))=true) (hG:G (fun _=>false) w.drew)
  (step:Q2 (fun i o=>∀ (L:Nat→Bool) (x:Nat→Value) (w:World),L i=false→(∀ d,(o.after.toList.any fun e=>Region.binds .any e && e.on == d)=true→L d=true)→G L w→(∀ j,(o.after.toList.any fun e=>Region.binds .any e && e.on == j)=true→Y j (x j) w) →
   ∀ K:Act→World→Prop,(∀ v w',Y i v w'→G (yK L i) w'→(∀ j,L j=true→Y j (x j) w→Y j (x j) w')→K ((F x).put o.dst v) w') →
    if Region.wanted o (yielded ops (F x).tmps)=true then Oper.wp P o (F x) w K Q else K ((F x).put o.dst undef) w) ops.toList 0)
  (fin:∀ (L:Nat→Bool) (x:Nat→Value) (w:World),(∀ j,j<ops.size→L j=true)→G L w→(∀ j,j<ops.size→Y j (x j) w)→Q .normal (F x) w):(Code.region id ops true).wp P Q a w :=
 vr hm (fun L x W=>G L W∧∀ j,L j=true→Y j (x j) W) F hF hap hback (fun _=>⟨hG,fun _ h=>by cases h⟩)
  (step.mono fun i o h L x w h1 h2 ⟨h3,h4⟩ K hK=>h L x w h1 h2 h3 (fun j hj=>h4 j (h2 j hj)) K fun v w' hy hg hk=>hK v w' ⟨hg,fun j hj=>by
   by_cases e:j=i
   ·
    subst e
    rw [show upd x j v j=v from if_pos rfl]
    exact hy
   ·
    rw [show upd x i v j=x j from if_neg e]
    rw [show yK L i j=L j from if_neg e] at hj
    exact hk j hj (h4 j hj)⟩)
  (fun L x w h1 ⟨h2,h3⟩=>fin L x w h1 h2 fun j hj=>h3 j (h1 j hj))
end
end Go.Proofs.YthmomkjingcbiaaGreatDoor
namespace Go.Proofs
open Go.Shelf
def Tryz.lays106_ren:Go.Shelf.Ren:=⟨fun | 106=>212 | 213=>251 | 265=>273 | n=>n,fun | 9=>9 | 3=>3 | n=>n,fun | n=>n⟩
theorem Tryz.lays106:Go.Proofs.Lays.n106 Tryz.prog Tryz.lays106_ren:={
 mixed:=by kernel_rfl
 f106:=Tryz.func212.trans (congrArg some (by kernel_rfl))
 f213:=Tryz.func251.trans (congrArg some (by kernel_rfl))
 f265:=Tryz.func273.trans (congrArg some (by kernel_rfl))
 t3:=Tryz.underlying3
 a3:=Tryz.isAgg3
 z3:=Tryz.sizeOf3
 v3:=Tryz.zeroValue3
 t9:=Tryz.underlying9
 a9:=Tryz.isAgg9
 z9:=Tryz.sizeOf9
 v9:=Tryz.zeroValue9 }
open Go.RowKit in
theorem Tryz.strings_Compare (a b:ByteArray) (w:World) :
  Calls Tryz.prog 212 #[.string a,.string b] w fun e w'=>e=.returned (.int .i64 (Lib.compareBytes a.data.toList b.data.toList))∧w'=w:=Any.strings_Compare Tryz.lays106 a b w
def Tryz.laysM316_ren:Go.Shelf.Ren:=⟨fun | 316=>223 | n=>n,fun | 9=>9 | 3=>3 | 4=>4 | 37=>22 | 0=>0 | 127=>251 | 5=>5 | n=>n,fun | n=>n⟩
theorem Tryz.laysM316:Go.Proofs.LaysM.n316 Tryz.prog Tryz.laysM316_ren:={
 mixed:=by kernel_rfl
 f316:=Tryz.func223.trans (congrArg some (by kernel_rfl))
 t0:=Tryz.underlying0
 a0:=Tryz.isAgg0
 z0:=Tryz.sizeOf0
 v0:=Tryz.zeroValue0
 t3:=Tryz.underlying3
 a3:=Tryz.isAgg3
 z3:=Tryz.sizeOf3
 v3:=Tryz.zeroValue3
 t4:=Tryz.underlying4
 a4:=Tryz.isAgg4
 z4:=Tryz.sizeOf4
 v4:=Tryz.zeroValue4
 t9:=Tryz.underlying9
 a9:=Tryz.isAgg9
 z9:=Tryz.sizeOf9
 v9:=Tryz.zeroValue9
 t37:=Tryz.underlying22
 a37:=Tryz.isAgg22
 z37:=Tryz.sizeOf22
 v37:=Tryz.zeroValue22
 t127:=Tryz.underlying251
 a127:=Tryz.isAgg251
 z127:=Tryz.sizeOf251
 v127:=Tryz.zeroValue251
 t5:=Tryz.underlying5
 a5:=Tryz.isAgg5
 z5:=Tryz.sizeOf5
 v5:=Tryz.zeroValue5
 i0:=by kernel_rfl
 i3:=by kernel_rfl
 i4:=by kernel_rfl
 i5:=by kernel_rfl
 i9:=by kernel_rfl
 i37:=by kernel_rfl
 i127:=by kernel_rfl }
open Go.RowKit in
theorem Tryz.stringslite_Clone (s:ByteArray) (w:World) (hlim:s.size≤281474976710656) :
  Calls Tryz.prog 223 #[.string s] w fun e w'=>e=.returned (.string s)∧Below w.heap.size w w':=Any.stringslite_Clone Tryz.laysM316 s w hlim
def Tryz.lays145_ren:Go.Shelf.Ren:=⟨fun | 145=>253 | 220=>274 | 219=>282 | 217=>285 | 225=>286 | 224=>287 | 267=>288 | 266=>292 | 314=>293 | n=>n,fun | 9=>9 | 4=>4 | 59=>249 | 3=>3 | 5=>5 | 46=>248 | 146=>282 | 51=>266 | n=>n,fun | 1=>0 | n=>n⟩
theorem Tryz.lays145:Go.Proofs.Lays.n145 Tryz.prog Tryz.lays145_ren:={
 mixed:=by kernel_rfl
 f145:=Tryz.func253.trans (congrArg some (by kernel_rfl))
 f217:=Tryz.func285.trans (congrArg some (by kernel_rfl))
 f219:=Tryz.func282.trans (congrArg some (by kernel_rfl))
 f220:=Tryz.func274.trans (congrArg some (by kernel_rfl))
 f224:=Tryz.func287.trans (congrArg some (by kernel_rfl))
 f225:=Tryz.func286.trans (congrArg some (by kernel_rfl))
 f266:=Tryz.func292.trans (congrArg some (by kernel_rfl))
 f267:=Tryz.func288.trans (congrArg some (by kernel_rfl))
 f314:=Tryz.func293.trans (congrArg some (by kernel_rfl))
 t3:=Tryz.underlying3
 a3:=Tryz.isAgg3
 z3:=Tryz.sizeOf3
 v3:=Tryz.zeroValue3
 t4:=Tryz.underlying4
 a4:=Tryz.isAgg4
 z4:=Tryz.sizeOf4
 v4:=Tryz.zeroValue4
 t5:=Tryz.underlying5
 a5:=Tryz.isAgg5
 z5:=Tryz.sizeOf5
 v5:=Tryz.zeroValue5
 t9:=Tryz.underlying9
 a9:=Tryz.isAgg9
 z9:=Tryz.sizeOf9
 v9:=Tryz.zeroValue9
 t46:=Tryz.underlying248
 a46:=Tryz.isAgg248
 z46:=Tryz.sizeOf248
 v46:=Tryz.zeroValue248
 t51:=Tryz.underlying266
 a51:=Tryz.isAgg266
 z51:=Tryz.sizeOf266
 v51:=Tryz.zeroValue266
 t59:=Tryz.underlying249
 a59:=Tryz.isAgg249
 z59:=Tryz.sizeOf249
 v59:=Tryz.zeroValue249
 t146:=Tryz.underlying282
 a146:=Tryz.isAgg282
 z146:=Tryz.sizeOf282
 v146:=Tryz.zeroValue282
 g1:=by kernel_rfl }
open Go.RowKit Go.Lib in
theorem Tryz.strings_Cut (s sep:ByteArray) (m:Int) (w:World) (hs:s.size<4294967281) (hm:w.cell? ⟨0,0,none⟩=some (.int .i64 m)) :
  Calls Tryz.prog 253 #[.string s,.string sep] w fun e w'=>e=.returned (.tuple #[.string ⟨(Lib.cut s.data.toList sep.data.toList).1.toArray⟩,.string ⟨(Lib.cut s.data.toList sep.data.toList).2.1.toArray⟩,.bool (Lib.cut s.data.toList sep.data.toList).2.2])∧∃ n,w'=w.drewN n:=Any.strings_Cut Tryz.lays145 s sep m w hs hm
open Go.RowKit Go.Lib in
def Tryz.lays146_ren:Go.Shelf.Ren:=⟨fun | 146=>275 | 221=>283 | 268=>289 | 138=>290 | 143=>291 | 195=>294 | 197=>295 | 218=>296 | 219=>282 | 260=>297 | 217=>285 | 225=>286 | 224=>287 | 267=>288 | 266=>292 | 314=>293 | n=>n,fun | 9=>9 | 31=>45 | 3=>3 | 4=>4 | 0=>0 | 105=>284 | 21=>21 | 5=>5 | 46=>248 | 119=>286 | 139=>289 | 138=>288 | 146=>282 | 51=>266 | n=>n,fun | 1=>0 | 3=>1 | 4=>2 | n=>n⟩
theorem Tryz.lays146:Go.Proofs.Lays.n146 Tryz.prog Tryz.lays146_ren:={
 mixed:=by kernel_rfl
 f138:=Tryz.func290.trans (congrArg some (by kernel_rfl))
 f143:=Tryz.func291.trans (congrArg some (by kernel_rfl))
 f146:=Tryz.func275.trans (congrArg some (by kernel_rfl))
 f195:=Tryz.func294.trans (congrArg some (by kernel_rfl))
 f197:=Tryz.func295.trans (congrArg some (by kernel_rfl))
 f217:=Tryz.func285.trans (congrArg some (by kernel_rfl))
 f218:=Tryz.func296.trans (congrArg some (by kernel_rfl))
 f219:=Tryz.func282.trans (congrArg some (by kernel_rfl))
 f221:=Tryz.func283.trans (congrArg some (by kernel_rfl))
 f224:=Tryz.func287.trans (congrArg some (by kernel_rfl))
 f225:=Tryz.func286.trans (congrArg some (by kernel_rfl))
 f260:=Tryz.func297.trans (congrArg some (by kernel_rfl))
 f266:=Tryz.func292.trans (congrArg some (by kernel_rfl))
 f267:=Tryz.func288.trans (congrArg some (by kernel_rfl))
 f268:=Tryz.func289.trans (congrArg some (by kernel_rfl))
 f314:=Tryz.func293.trans (congrArg some (by kernel_rfl))
 t0:=Tryz.underlying0
 a0:=Tryz.isAgg0
 z0:=Tryz.sizeOf0
 v0:=Tryz.zeroValue0
 t3:=Tryz.underlying3
 a3:=Tryz.isAgg3
 z3:=Tryz.sizeOf3
 v3:=Tryz.zeroValue3
 t4:=Tryz.underlying4
 a4:=Tryz.isAgg4
 z4:=Tryz.sizeOf4
 v4:=Tryz.zeroValue4
 t5:=Tryz.underlying5
 a5:=Tryz.isAgg5
 z5:=Tryz.sizeOf5
 v5:=Tryz.zeroValue5
 t9:=Tryz.underlying9
 a9:=Tryz.isAgg9
 z9:=Tryz.sizeOf9
 v9:=Tryz.zeroValue9
 t21:=Tryz.underlying21
 a21:=Tryz.isAgg21
 z21:=Tryz.sizeOf21
 v21:=Tryz.zeroValue21
 t31:=Tryz.underlying45
 a31:=Tryz.isAgg45
 z31:=Tryz.sizeOf45
 v31:=Tryz.zeroValue45
 t46:=Tryz.underlying248
 a46:=Tryz.isAgg248
 z46:=Tryz.sizeOf248
 v46:=Tryz.zeroValue248
 t51:=Tryz.underlying266
 a51:=Tryz.isAgg266
 z51:=Tryz.sizeOf266
 v51:=Tryz.zeroValue266
 t105:=Tryz.underlying284
 a105:=Tryz.isAgg284
 z105:=Tryz.sizeOf284
 v105:=Tryz.zeroValue284
 t119:=Tryz.underlying286
 a119:=Tryz.isAgg286
 z119:=Tryz.sizeOf286
 t138:=Tryz.underlying288
 a138:=Tryz.isAgg288
 z138:=Tryz.sizeOf288
 v138:=Tryz.zeroValue288
 t139:=Tryz.underlying289
 a139:=Tryz.isAgg289
 z139:=Tryz.sizeOf289
 v139:=Tryz.zeroValue289
 t146:=Tryz.underlying282
 a146:=Tryz.isAgg282
 z146:=Tryz.sizeOf282
 v146:=Tryz.zeroValue282
 g1:=by kernel_rfl
 g3:=by kernel_rfl
 g4:=by kernel_rfl }
open Go.RowKit Go.Lib in
theorem Tryz.strings_Split (s sep:ByteArray) (m:Int) (w:World) (hs:s.size<4294967281) (hm:w.cell? ⟨0,0,none⟩=some (.int .i64 m)) (h1:1≤sep.size) :
  Calls Tryz.prog 275 #[.string s,.string sep] w fun e w' =>
   e=.returned (.slice (some ⟨w.heap.size,0,none⟩) (Lib.countB s sep+1) (Lib.countB s sep+1))∧w'=w.alloc (.cells ((Lib.splitB sep 0 (Lib.countB s sep) s).map Value.string).toArray 9):=Any.strings_Split Tryz.lays146 (by kernel_rfl) s sep m w hs hm h1
def Tryz.lays193_ren:Go.Shelf.Ren:=⟨fun | 193=>258 | n=>n,fun | 31=>45 | 9=>9 | 4=>4 | 3=>3 | 0=>0 | n=>n,fun | n=>n⟩
theorem Tryz.lays193:Go.Proofs.Lays.n193 Tryz.prog Tryz.lays193_ren:={
 mixed:=by kernel_rfl
 f193:=Tryz.func258.trans (congrArg some (by kernel_rfl))
 t0:=Tryz.underlying0
 a0:=Tryz.isAgg0
 z0:=Tryz.sizeOf0
 v0:=Tryz.zeroValue0
 t3:=Tryz.underlying3
 a3:=Tryz.isAgg3
 z3:=Tryz.sizeOf3
 v3:=Tryz.zeroValue3
 t4:=Tryz.underlying4
 a4:=Tryz.isAgg4
 z4:=Tryz.sizeOf4
 v4:=Tryz.zeroValue4
 t9:=Tryz.underlying9
 a9:=Tryz.isAgg9
 z9:=Tryz.sizeOf9
 v9:=Tryz.zeroValue9
 t31:=Tryz.underlying45
 a31:=Tryz.isAgg45
 z31:=Tryz.sizeOf45
 v31:=Tryz.zeroValue45 }
open Go.RowKit Go.Lib in
theorem Tryz.slices_Equal_string (b1 o1 n c b2 o2 m d:Nat) (xs ys:List ByteArray) (w:World) (hx:n≤xs.length) (hy:m≤ys.length) (hbig:n≤9223372036854775807) (hbig2:m≤9223372036854775807) (hc1:∀ j,j<xs.length→w.cell? ⟨b1,o1+j,none⟩=some (.string (xs.getD j ByteArray.empty))) (hc2:∀ j,j<ys.length→w.cell? ⟨b2,o2+j,none⟩=some (.string (ys.getD j ByteArray.empty))) :
  Calls Tryz.prog 258 #[.slice (some ⟨b1,o1,none⟩) n c,.slice (some ⟨b2,o2,none⟩) m d] w fun e w'=>e=.returned (.bool (decide (xs.take n=ys.take m)))∧∃ q,w'=w.drewN q:=Any.slices_Equal_string Tryz.lays193 b1 o1 n c b2 o2 m d xs ys w hx hy hbig hbig2 hc1 hc2
open Go.RowKit Go.Lib in
theorem Tryz.slices_Equal_string_empty (a1 a2:Option Addr) (c m d:Nat) (w:World) (hbig2:m≤9223372036854775807) :
  Calls Tryz.prog 258 #[.slice a1 0 c,.slice a2 m d] w fun e w'=>e=.returned (.bool (decide (m=0)))∧w'=w:=Any.slices_Equal_string_empty Tryz.lays193 a1 a2 c m d w hbig2
open Go.RowKit Go.Lib in
theorem Tryz.slices_Equal_string_lens (a1 a2:Option Addr) (n c m d:Nat) (w:World) (hnm:n≠m) :
  Calls Tryz.prog 258 #[.slice a1 n c,.slice a2 m d] w fun e w'=>e=.returned (.bool false)∧w'=w:=Any.slices_Equal_string_lens Tryz.lays193 a1 a2 n c m d w hnm
open Go.RowKit Go.Lib in
open Go.RowKit Go.Lib Go.Sort in
def Tryz.keys7_ren:Go.Shelf.Ren:=⟨fun | 7=>137 | 10=>211 | n=>n,fun | 23=>76 | 26=>9 | 3=>9 | 28=>159 | 0=>0 | 27=>158 | 33=>100 | 4=>4 | n=>n,fun | n=>n⟩
theorem Tryz.keys7:Go.Proofs.SlLaysZ.n7 Tryz.prog Tryz.keys7_ren:={
 mixed:=by kernel_rfl
 f7:=⟨Tryz.f137.name,by decide,Tryz.func137.trans (congrArg some (by kernel_rfl))⟩
 f10:=⟨Tryz.f211.name,by decide,Tryz.func211.trans (congrArg some (by kernel_rfl))⟩
 t0:=Tryz.underlying0
 a0:=Tryz.isAgg0
 z0:=Tryz.sizeOf0
 v0:=Tryz.zeroValue0
 t4:=Tryz.underlying4
 a4:=Tryz.isAgg4
 z4:=Tryz.sizeOf4
 v4:=Tryz.zeroValue4
 t23:=Tryz.underlying76
 a23:=Tryz.isAgg76
 z23:=Tryz.sizeOf76
 v23:=Tryz.zeroValue76
 t26:=Tryz.underlying9
 a26:=Tryz.isAgg9
 z26:=Tryz.sizeOf9
 v26:=Tryz.zeroValue9
 t27:=Tryz.underlying158
 a27:=Tryz.isAgg158
 z27:=Tryz.sizeOf158
 v27:=Tryz.zeroValue158
 t28:=Tryz.underlying159
 a28:=Tryz.isAgg159
 z28:=Tryz.sizeOf159
 v28:=Tryz.zeroValue159
 t33:=Tryz.underlying100
 a33:=Tryz.isAgg100
 z33:=Tryz.sizeOf100
 v33:=Tryz.zeroValue100 }
def Tryz.keys11_ren:Go.Shelf.Ren:=⟨fun | 7=>140 | 10=>215 | n=>n,fun | 23=>102 | 26=>9 | 3=>147 | 28=>159 | 0=>0 | 27=>158 | 33=>100 | 4=>4 | n=>n,fun | n=>n⟩
theorem Tryz.keys11:Go.Proofs.SlLaysZ.n7 Tryz.prog Tryz.keys11_ren:={
 mixed:=by kernel_rfl
 f7:=⟨Tryz.f140.name,by decide,Tryz.func140.trans (congrArg some (by kernel_rfl))⟩
 f10:=⟨Tryz.f215.name,by decide,Tryz.func215.trans (congrArg some (by kernel_rfl))⟩
 t0:=Tryz.underlying0
 a0:=Tryz.isAgg0
 z0:=Tryz.sizeOf0
 v0:=Tryz.zeroValue0
 t4:=Tryz.underlying4
 a4:=Tryz.isAgg4
 z4:=Tryz.sizeOf4
 v4:=Tryz.zeroValue4
 t23:=Tryz.underlying102
 a23:=Tryz.isAgg102
 z23:=Tryz.sizeOf102
 v23:=Tryz.zeroValue102
 t26:=Tryz.underlying9
 a26:=Tryz.isAgg9
 z26:=Tryz.sizeOf9
 v26:=Tryz.zeroValue9
 t27:=Tryz.underlying158
 a27:=Tryz.isAgg158
 z27:=Tryz.sizeOf158
 v27:=Tryz.zeroValue158
 t28:=Tryz.underlying159
 a28:=Tryz.isAgg159
 z28:=Tryz.sizeOf159
 v28:=Tryz.zeroValue159
 t33:=Tryz.underlying100
 a33:=Tryz.isAgg100
 z33:=Tryz.sizeOf100
 v33:=Tryz.zeroValue100 }
def Tryz.collect7_ren:Go.Shelf.Ren:=⟨fun | 8=>209 | 11=>248 | n=>n,fun | 26=>9 | 28=>159 | 24=>45 | 0=>0 | 33=>100 | 4=>4 | n=>n,fun | n=>n⟩
theorem Tryz.collect7:Go.Proofs.SlLaysZ.n8 Tryz.prog Tryz.collect7_ren:={
 mixed:=by kernel_rfl
 f8:=⟨Tryz.f209.name,by decide,Tryz.func209.trans (congrArg some (by kernel_rfl))⟩
 f11:=⟨Tryz.f248.name,by decide,Tryz.func248.trans (congrArg some (by kernel_rfl))⟩
 t0:=Tryz.underlying0
 a0:=Tryz.isAgg0
 z0:=Tryz.sizeOf0
 v0:=Tryz.zeroValue0
 t24:=Tryz.underlying45
 a24:=Tryz.isAgg45
 z24:=Tryz.sizeOf45
 v24:=Tryz.zeroValue45
 t26:=Tryz.underlying9
 a26:=Tryz.isAgg9
 z26:=Tryz.sizeOf9
 v26:=Tryz.zeroValue9
 t28:=Tryz.underlying159
 a28:=Tryz.isAgg159
 z28:=Tryz.sizeOf159
 v28:=Tryz.zeroValue159
 i26:=by kernel_rfl }
open Go.RowKit Go.Lib in
def Tryz.laysSlF06_f210_ren:Go.Shelf.Ren:=⟨fun | 6=>210 | 15=>250 | 14=>249 | 28=>271 | 29=>272 | 20=>263 | 21=>264 | 22=>265 | 23=>266 | 24=>267 | 25=>268 | 26=>269 | 27=>270 | 46=>277 | 47=>278 | 48=>279 | 49=>280 | 50=>281 | 57=>284 | n=>n,fun | 22=>45 | 24=>9 | 25=>161 | 3=>3 | 39=>248 | 0=>0 | 53=>266 | 55=>120 | 4=>4 | 46=>259 | 45=>258 | 50=>263 | 5=>5 | 9=>9 | 66=>270 | 70=>274 | 76=>277 | 77=>278 | n=>n,fun | n=>n⟩
theorem Tryz.laysSlF06_f210:Go.Proofs.SlLaysF0.n6 Tryz.prog Tryz.laysSlF06_f210_ren:={
 mixed:=by kernel_rfl
 f6:=⟨Tryz.f210.name,by decide,Tryz.func210.trans (congrArg some (by kernel_rfl))⟩
 f14:=⟨Tryz.f249.name,by decide,Tryz.func249.trans (congrArg some (by kernel_rfl))⟩
 f15:=Tryz.func250.trans (congrArg some (by kernel_rfl))
 f20:=⟨Tryz.f263.name,by decide,Tryz.func263.trans (congrArg some (by kernel_rfl))⟩
 f21:=⟨Tryz.f264.name,by decide,Tryz.func264.trans (congrArg some (by kernel_rfl))⟩
 f22:=⟨Tryz.f265.name,by decide,Tryz.func265.trans (congrArg some (by kernel_rfl))⟩
 f23:=⟨Tryz.f266.name,by decide,Tryz.func266.trans (congrArg some (by kernel_rfl))⟩
 f24:=⟨Tryz.f267.name,by decide,Tryz.func267.trans (congrArg some (by kernel_rfl))⟩
 f25:=⟨Tryz.f268.name,by decide,Tryz.func268.trans (congrArg some (by kernel_rfl))⟩
 f26:=⟨Tryz.f269.name,by decide,Tryz.func269.trans (congrArg some (by kernel_rfl))⟩
 f27:=⟨Tryz.f270.name,by decide,Tryz.func270.trans (congrArg some (by kernel_rfl))⟩
 f28:=Tryz.func271.trans (congrArg some (by kernel_rfl))
 f29:=Tryz.func272.trans (congrArg some (by kernel_rfl))
 f46:=⟨Tryz.f277.name,by decide,Tryz.func277.trans (congrArg some (by kernel_rfl))⟩
 f47:=Tryz.func278.trans (congrArg some (by kernel_rfl))
 f48:=Tryz.func279.trans (congrArg some (by kernel_rfl))
 f49:=⟨Tryz.f280.name,by decide,Tryz.func280.trans (congrArg some (by kernel_rfl))⟩
 f50:=⟨Tryz.f281.name,by decide,Tryz.func281.trans (congrArg some (by kernel_rfl))⟩
 f57:=⟨Tryz.f284.name,by decide,Tryz.func284.trans (congrArg some (by kernel_rfl))⟩
 t0:=Tryz.underlying0
 a0:=Tryz.isAgg0
 z0:=Tryz.sizeOf0
 v0:=Tryz.zeroValue0
 t3:=Tryz.underlying3
 a3:=Tryz.isAgg3
 z3:=Tryz.sizeOf3
 v3:=Tryz.zeroValue3
 t4:=Tryz.underlying4
 a4:=Tryz.isAgg4
 z4:=Tryz.sizeOf4
 v4:=Tryz.zeroValue4
 t5:=Tryz.underlying5
 a5:=Tryz.isAgg5
 z5:=Tryz.sizeOf5
 v5:=Tryz.zeroValue5
 t9:=Tryz.underlying9
 a9:=Tryz.isAgg9
 z9:=Tryz.sizeOf9
 v9:=Tryz.zeroValue9
 t22:=Tryz.underlying45
 a22:=Tryz.isAgg45
 z22:=Tryz.sizeOf45
 v22:=Tryz.zeroValue45
 t25:=Tryz.underlying161
 a25:=Tryz.isAgg161
 z25:=Tryz.sizeOf161
 v25:=Tryz.zeroValue161
 t39:=Tryz.underlying248
 a39:=Tryz.isAgg248
 z39:=Tryz.sizeOf248
 v39:=Tryz.zeroValue248
 t45:=Tryz.underlying258
 a45:=Tryz.isAgg258
 z45:=Tryz.sizeOf258
 v45:=Tryz.zeroValue258
 t46:=Tryz.underlying259
 a46:=Tryz.isAgg259
 z46:=Tryz.sizeOf259
 v46:=Tryz.zeroValue259
 t50:=Tryz.underlying263
 a50:=Tryz.isAgg263
 z50:=Tryz.sizeOf263
 v50:=Tryz.zeroValue263
 t53:=Tryz.underlying266
 a53:=Tryz.isAgg266
 z53:=Tryz.sizeOf266
 v53:=Tryz.zeroValue266
 t55:=Tryz.underlying120
 a55:=Tryz.isAgg120
 z55:=Tryz.sizeOf120
 v55:=Tryz.zeroValue120
 t66:=Tryz.underlying270
 a66:=Tryz.isAgg270
 z66:=Tryz.sizeOf270
 v66:=Tryz.zeroValue270
 t70:=Tryz.underlying274
 a70:=Tryz.isAgg274
 z70:=Tryz.sizeOf274
 v70:=Tryz.zeroValue274
 t76:=Tryz.underlying277
 a76:=Tryz.isAgg277
 z76:=Tryz.sizeOf277
 v76:=Tryz.zeroValue277
 t77:=Tryz.underlying278
 a77:=Tryz.isAgg278
 z77:=Tryz.sizeOf278
 v77:=Tryz.zeroValue278 }
open Go.RowKit Go.Lib Go.Sort in
theorem Tryz.slices_SortFunc_none {α:Type} [Inhabited α] (p:Option Addr) (cap:Nat) (fv:Value) (w:World) :
  Calls Tryz.prog 210 #[.slice p 0 cap,fv] w fun e w'=>e=.returned (.tuple #[])∧w'=w:=AnyF.slices_SortFunc_none Tryz.laysSlF06_f210 p cap fv w
def Tryz.laysSlF6_f210_ren:Go.Shelf.Ren:=⟨fun | 6=>210 | 15=>250 | 14=>249 | 28=>271 | 29=>272 | 20=>263 | 21=>264 | 22=>265 | 23=>266 | 24=>267 | 25=>268 | 26=>269 | 27=>270 | 46=>277 | 47=>278 | 48=>279 | 49=>280 | 50=>281 | 57=>284 | n=>n,fun | 22=>45 | 24=>9 | 25=>161 | 3=>3 | 39=>248 | 0=>0 | 53=>266 | 55=>120 | 4=>4 | 46=>259 | 45=>258 | 50=>263 | 5=>5 | 9=>9 | 66=>270 | 70=>274 | 76=>277 | 77=>278 | n=>n,fun | n=>n⟩
theorem Tryz.laysSlF6_f210:Go.Proofs.SlLaysF.n6 Tryz.prog Tryz.laysSlF6_f210_ren:={
 mixed:=by kernel_rfl
 f6:=⟨Tryz.f210.name,by decide,Tryz.func210.trans (congrArg some (by kernel_rfl))⟩
 f14:=⟨Tryz.f249.name,by decide,Tryz.func249.trans (congrArg some (by kernel_rfl))⟩
 f15:=Tryz.func250.trans (congrArg some (by kernel_rfl))
 f20:=⟨Tryz.f263.name,by decide,Tryz.func263.trans (congrArg some (by kernel_rfl))⟩
 f21:=⟨Tryz.f264.name,by decide,Tryz.func264.trans (congrArg some (by kernel_rfl))⟩
 f22:=⟨Tryz.f265.name,by decide,Tryz.func265.trans (congrArg some (by kernel_rfl))⟩
 f23:=⟨Tryz.f266.name,by decide,Tryz.func266.trans (congrArg some (by kernel_rfl))⟩
 f24:=⟨Tryz.f267.name,by decide,Tryz.func267.trans (congrArg some (by kernel_rfl))⟩
 f25:=⟨Tryz.f268.name,by decide,Tryz.func268.trans (congrArg some (by kernel_rfl))⟩
 f26:=⟨Tryz.f269.name,by decide,Tryz.func269.trans (congrArg some (by kernel_rfl))⟩
 f27:=⟨Tryz.f270.name,by decide,Tryz.func270.trans (congrArg some (by kernel_rfl))⟩
 f28:=Tryz.func271.trans (congrArg some (by kernel_rfl))
 f29:=Tryz.func272.trans (congrArg some (by kernel_rfl))
 f46:=⟨Tryz.f277.name,by decide,Tryz.func277.trans (congrArg some (by kernel_rfl))⟩
 f47:=Tryz.func278.trans (congrArg some (by kernel_rfl))
 f48:=Tryz.func279.trans (congrArg some (by kernel_rfl))
 f49:=⟨Tryz.f280.name,by decide,Tryz.func280.trans (congrArg some (by kernel_rfl))⟩
 f50:=⟨Tryz.f281.name,by decide,Tryz.func281.trans (congrArg some (by kernel_rfl))⟩
 f57:=⟨Tryz.f284.name,by decide,Tryz.func284.trans (congrArg some (by kernel_rfl))⟩
 t0:=Tryz.underlying0
 a0:=Tryz.isAgg0
 z0:=Tryz.sizeOf0
 v0:=Tryz.zeroValue0
 t3:=Tryz.underlying3
 a3:=Tryz.isAgg3
 z3:=Tryz.sizeOf3
 v3:=Tryz.zeroValue3
 t4:=Tryz.underlying4
 a4:=Tryz.isAgg4
 z4:=Tryz.sizeOf4
 v4:=Tryz.zeroValue4
 t5:=Tryz.underlying5
 a5:=Tryz.isAgg5
 z5:=Tryz.sizeOf5
 v5:=Tryz.zeroValue5
 t9:=Tryz.underlying9
 a9:=Tryz.isAgg9
 z9:=Tryz.sizeOf9
 v9:=Tryz.zeroValue9
 t22:=Tryz.underlying45
 a22:=Tryz.isAgg45
 z22:=Tryz.sizeOf45
 v22:=Tryz.zeroValue45
 a24:=Tryz.isAgg9
 z24:=Tryz.sizeOf9
 t25:=Tryz.underlying161
 a25:=Tryz.isAgg161
 z25:=Tryz.sizeOf161
 v25:=Tryz.zeroValue161
 t39:=Tryz.underlying248
 a39:=Tryz.isAgg248
 z39:=Tryz.sizeOf248
 v39:=Tryz.zeroValue248
 t45:=Tryz.underlying258
 a45:=Tryz.isAgg258
 z45:=Tryz.sizeOf258
 v45:=Tryz.zeroValue258
 t46:=Tryz.underlying259
 a46:=Tryz.isAgg259
 z46:=Tryz.sizeOf259
 v46:=Tryz.zeroValue259
 t50:=Tryz.underlying263
 a50:=Tryz.isAgg263
 z50:=Tryz.sizeOf263
 v50:=Tryz.zeroValue263
 t53:=Tryz.underlying266
 a53:=Tryz.isAgg266
 z53:=Tryz.sizeOf266
 v53:=Tryz.zeroValue266
 t55:=Tryz.underlying120
 a55:=Tryz.isAgg120
 z55:=Tryz.sizeOf120
 v55:=Tryz.zeroValue120
 t66:=Tryz.underlying270
 a66:=Tryz.isAgg270
 z66:=Tryz.sizeOf270
 v66:=Tryz.zeroValue270
 t70:=Tryz.underlying274
 a70:=Tryz.isAgg274
 z70:=Tryz.sizeOf274
 v70:=Tryz.zeroValue274
 t76:=Tryz.underlying277
 a76:=Tryz.isAgg277
 z76:=Tryz.sizeOf277
 v76:=Tryz.zeroValue277
 t77:=Tryz.underlying278
 a77:=Tryz.isAgg278
 z77:=Tryz.sizeOf278
 v77:=Tryz.zeroValue278 }
open Go.RowKit Go.Lib Go.Sort in
theorem Tryz.slices_SortFunc_total {α:Type} [Inhabited α] (enc:α→Value) (h1:OneCell enc) (cf:α→α→Int) (hO:SWO (ltOf cf)) (g:Nat) (cb:Array Value) (blk off cap:Nat) (d:Array α) (w:World) (eg:∀ args w,(callFunc g args).run Tryz.prog w=.ok (.enter g args) w) (hcmp:CmpLays1 Tryz.prog g cb enc cf blk off d.size w) (hH:Holds enc w blk off d) (hblk:blk<w.heap.size) (hsz:d.size<4611686018427387904) (hT:∀ x y,(ltOf cf) x y=false→(ltOf cf) y x=false→x=y) :
  Calls Tryz.prog 210 #[.slice (some ⟨blk,off,none⟩) d.size cap,.func (.func g) #[] cb] w fun e w' =>
   e=.returned (.tuple #[])∧∃ n os,w'=sortWorld enc w blk off n (d.toList.mergeSort fun x y=>!(ltOf cf) y x).toArray os:=Any.slices_SortFunc_total Tryz.laysSlF6_f210 enc h1 cf hO g cb blk off cap d w eg hcmp hH hblk hsz hT
end Go.Proofs
namespace Go.Proofs.YthmomkjingcbiaaGreatDoor
open Go.RowKit Go.Shelf

theorem z7 {a b c:World} (h:Below a.heap.size a b) (k:Below b.heap.size b c):Below a.heap.size a c:=h.trans (k.mono h.size)
theorem zn {a w:World} (h:Below a.heap.size a w) (q:Nat):Below a.heap.size a (w.drewN q):=⟨h.os,h.tape,h.output,h.size,h.block⟩
theorem zy {a w:World} (h:Below a.heap.size a w):Below a.heap.size a w.drew:=⟨h.os,h.tape,h.output,h.size,h.block⟩
theorem za {a w:World} (h:Below a.heap.size a w) (o:Obj):Below a.heap.size a (w.alloc o):=h.alloc h.size o

def encB (b:UInt8):Value:=.int .u8 b.toNat

def Ya (v:Value) (p:UInt8→Bool) (w:World):Prop :=
 ∃ g lb,v=.func (.func g) #[] lb∧(∀ args w,(callFunc g args).run Tryz.prog w=.ok (.enter g args) w) ∧
  ∀ (W:World) (x:UInt8),Below w.heap.size w W→Calls Tryz.prog g (#[encB x]++lb) W fun e w'=>e=.returned (.bool (p x))∧∃ q,w'=W.drewN q

theorem Ya.later {v:Value} {p:UInt8→Bool} {w W:World} (h:Ya v p w) (hb:Below w.heap.size w W):Ya v p W:=by
 obtain ⟨g,lb,e,eg,hp⟩:=h
 exact ⟨g,lb,e,eg,fun W' x hb'=>hp W' x (z7 hb hb')⟩
theorem Ya.like {v:Value} {p p':UInt8→Bool} {w:World} (h:Ya v p w) (e:∀ x,p x=p' x):Ya v p' w:=by
 obtain rfl:p=p':=funext e
 exact h

def inR (a b:Nat) (c:UInt8):Bool:=decide (a≤c.toNat) && decide (c.toNat≤b)

def Y7 (p:UInt8→Bool) (w:World) (e:Ending) (w':World):Prop:=∃ g lb,e=.returned (.func (.func g) #[] lb)∧Ya (.func (.func g) #[] lb) p w'∧Below w.heap.size w w'

theorem mkf:∀ (fn:Fn) (first cap:Array Value) (w:World),(Instr.makeFunc fn first cap).run Tryz.prog w=.ok (.func fn first cap) w:=fun _ _ _ _=>rfl

set_option maxRecDepth 100000 in
theorem Xp (B C a b:Nat) (x:UInt8) (w:World) (ha:w.cell? ⟨B,0,none⟩=some (.int .u8 a)) (hb:w.cell? ⟨C,0,none⟩=some (.int .u8 b)) :
  Calls Tryz.prog 260 #[encB x,.pointer (some ⟨B,0,none⟩),.pointer (some ⟨C,0,none⟩)] w fun e w'=>e=.returned (.bool (inR a b x))∧∃ q,w'=w.drewN q:=by
 unfold encB inR
 generalize x.toNat=n
 by_cases h1:a≤n <;> by_cases h2:n≤b
 all_goals
  have z1:(a:Int)≤(n:Int)↔a≤n:=by omega
  have z2:(n:Int)≤(b:Int)↔n≤b:=by omega
  go_enter Tryz.func260,Tryz.ntmps260
  go_wp2
  all_goals first | (exfalso; omega) | (go_ret; exact ⟨by simp [h1,h2],0,rfl⟩)

set_option maxRecDepth 100000 in
theorem Vo (a b:Nat) (w:World):Calls Tryz.prog 245 #[.int .u8 a,.int .u8 b] w (Y7 (inR a b) w):=by
 have hmf:=mkf
 go_enter Tryz.func245,Tryz.ntmps245
 go_wp2
 go_ret
 refine ⟨_,_,rfl,?_,za (za (Below.refl _ _) _) _⟩
 refine ⟨_,_,rfl,enters_of Tryz.func260 (by kernel_rfl) rfl,fun W x hb=>?_⟩
 exact Xp _ _ a b x W ((hb.cell (p:=⟨_,0,none⟩) (by simp; try omega)).trans (by simp)) ((hb.cell (p:=⟨_,0,none⟩) (by simp; try omega)).trans (by simp))

theorem vA (x y:Int) (a b:Nat) (hx:x=a) (hy:y=b) (w:World):Calls Tryz.prog 245 #[.int .u8 x,.int .u8 y] w (Y7 (inR a b) w):=by
 subst hx; subst hy; exact Vo a b w

def uP (w:World) (B:Nat) (l:List (Value×(UInt8→Bool))):Prop :=
 B<w.heap.size∧∀ j (h:j<l.length),w.cell? ⟨B,j,none⟩=some l[j].1∧Ya l[j].1 l[j].2 w
theorem uP.later {w W:World} {B:Nat} {l:List (Value×(UInt8→Bool))} (h:uP w B l) (hb:Below w.heap.size w W):uP W B l :=
 ⟨Nat.lt_of_lt_of_le h.1 hb.size,fun j hj=>⟨(hb.cell (p:=⟨B,j,none⟩) h.1).trans (h.2 j hj).1,(h.2 j hj).2.later hb⟩⟩

set_option maxRecDepth 100000 in
theorem V7 (C B n cap:Nat) (l:List (Value×(UInt8→Bool))) (x:UInt8) (w:World) (hl:n=l.length) (hn:n≤1000) (hc:w.cell? ⟨C,0,none⟩=some (.slice (some ⟨B,0,none⟩) n cap)) (hr:uP w B l) :
  Calls Tryz.prog 259 #[encB x,.pointer (some ⟨C,0,none⟩)] w fun e w'=>e=.returned (.bool (l.any fun a=>a.2 x))∧∃ q,w'=w.drewN q:=by
 have HR:=z8 hr
 have HL:=z8 hl
 clear hr hl
 generalize hx:encB x=xv
 have HX:=z8 hx
 clear hx
 go_enter Tryz.func259,Tryz.ntmps259
 go_wp2
 go_loopg [5,8] n (fun gg _ s8 wr=>∃ kk q:Nat,kk≤n∧n - kk≤gg∧s8=.int .i64 kk∧wr=w.drewN q∧Hid (∀ j (h:j<l.length),j<kk→l[j].2 x=false))
 case atStart=>exact ⟨0,0,Nat.zero_le _,by omega,rfl,rfl,fun j _ hj=>absurd hj (Nat.not_lt_zero _)⟩
 case round =>
  obtain ⟨kk,q,hkk,hg,rfl,rfl,A⟩:=hrel
  by_cases hlt:kk<n
  ·
   have hltz:(kk:Int)<(n:Int):=by omega
   have hk:kk<l.length:=HL.out ▸ hlt
   obtain ⟨hcell,g,lb,hv,eg,hp⟩:=HR.out.2 kk hk
   have HF:=z8 (rfl:l[kk].2 x=l[kk].2 x)
   have hcall:=hp (w.drewN q) x (zn (Below.refl _ _) q)
   rw [hv] at hcell
   rw [HX.out] at hcall
   have HC:=z8 hcall
   clear hp hcall hv
   cases hq:l[kk].2 x with
   | true =>
    have HQ:=z8 hq
    clear hq
    go_wp2_with (go_at_fn g; refine HC.out.mono ?_; rw [HQ.out]; rintro e w' ⟨rfl,q',rfl⟩)
    go_ret
    refine ⟨?_,_,rfl⟩
    have:(l.any fun a=>a.2 x)=true:=List.any_eq_true.2 ⟨l[kk],List.getElem_mem hk,HQ.out⟩
    rw [this]; rfl
   | false =>
    have HQ:=z8 hq
    clear hq
    go_wp2_with (go_at_fn g; refine HC.out.mono ?_; rw [HQ.out]; rintro e w' ⟨rfl,q',rfl⟩)
    go_roundg (n - (kk+1))
    case measure=>omega
    case rel =>
     refine ⟨kk+1,_,by omega,by omega,by go_num,rfl,(show Hid _ from fun j h hj=>?_)⟩
     by_cases e:j=kk
     ·
      subst e
      exact HQ.out
     ·
      exact A.out j h (by omega)
  ·
   have hltz:¬ (kk:Int)<(n:Int):=by omega
   have:kk=n:=by omega
   subst this
   go_wp2
   go_ret
   refine ⟨?_,q,rfl⟩
   have:(l.any fun a=>a.2 x)=false:=by
    rw [List.any_eq_false]
    intro a ha
    obtain ⟨j,hj,rfl⟩:=List.getElem_of_mem ha
    simp [A.out j hj (HL.out ▸ hj)]
   rw [this]; rfl

set_option maxRecDepth 100000 in
theorem qk (B n cap:Nat) (l:List (Value×(UInt8→Bool))) (w:World) (hl:n=l.length) (hn:n≤1000) (hr:uP w B l) :
  Calls Tryz.prog 243 #[.slice (some ⟨B,0,none⟩) n cap] w (Y7 (fun x=>l.any fun a=>a.2 x) w):=by
 have hmf:=mkf
 have HR:=z8 hr
 have HL:=z8 hl
 clear hr hl
 go_enter Tryz.func243,Tryz.ntmps243
 go_wp2
 go_ret
 refine ⟨_,_,rfl,?_,za (Below.refl _ _) _⟩
 refine ⟨_,_,rfl,enters_of Tryz.func259 (by kernel_rfl) rfl,fun W x hb=>?_⟩
 exact V7 _ B n cap l x W HL.out hn ((hb.cell (p:=⟨_,0,none⟩) (by simp)).trans (by simp)) (HR.out.later (z7 (za (Below.refl _ _) _) hb))

def vM:UInt8→Bool:=inR 97 122
def UJ:UInt8→Bool:=inR 48 57
def xl (x:UInt8):Bool:=vM x || UJ x
def fe (x:UInt8):Bool:=xl x || inR 45 45 x || inR 46 46 x

set_option maxRecDepth 100000 in
theorem fH (w:World):Calls Tryz.prog 206 #[] w (Y7 vM w):=by
 have HC:=z8 (vA 97 122 97 122 rfl rfl w)
 go_enter Tryz.func206,Tryz.ntmps206
 go_wp2_with fail
 with_reducible refine HC.out.mono ?_
 rintro e w1 ⟨g,lb,rfl,ha,hb⟩
 have HA:=z8 ha
 have HB:=z8 hb
 clear ha hb
 go_wp2
 go_ret
 exact ⟨g,lb,rfl,HA.out,HB.out⟩

set_option maxRecDepth 100000 in
theorem ZW (w:World):Calls Tryz.prog 244 #[] w (Y7 UJ w):=by
 have HC:=z8 (vA 48 57 48 57 rfl rfl w)
 go_enter Tryz.func244,Tryz.ntmps244
 go_wp2_with fail
 with_reducible refine HC.out.mono ?_
 rintro e w1 ⟨g,lb,rfl,ha,hb⟩
 have HA:=z8 ha
 have HB:=z8 hb
 clear ha hb
 go_wp2
 go_ret
 exact ⟨g,lb,rfl,HA.out,HB.out⟩

theorem uP.two {w:World} {B:Nat} {v1 v2:Value} {p1 p2:UInt8→Bool} (hB:B<w.heap.size) (c1:w.cell? ⟨B,0,none⟩=some v1) (c2:w.cell? ⟨B,1,none⟩=some v2) (a1:Ya v1 p1 w) (a2:Ya v2 p2 w) :
  uP w B [(v1,p1),(v2,p2)] :=
 ⟨hB,fun j hj=>match j,hj with
  | 0,_=>⟨c1,a1⟩
  | 1,_=>⟨c2,a2⟩
  | k+2,h=>absurd h (by simp)⟩
theorem uP.three {w:World} {B:Nat} {v1 v2 v3:Value} {p1 p2 p3:UInt8→Bool} (hB:B<w.heap.size) (c1:w.cell? ⟨B,0,none⟩=some v1) (c2:w.cell? ⟨B,1,none⟩=some v2) (c3:w.cell? ⟨B,2,none⟩=some v3) (a1:Ya v1 p1 w) (a2:Ya v2 p2 w) (a3:Ya v3 p3 w) :
  uP w B [(v1,p1),(v2,p2),(v3,p3)] :=
 ⟨hB,fun j hj=>match j,hj with
  | 0,_=>⟨c1,a1⟩
  | 1,_=>⟨c2,a2⟩
  | 2,_=>⟨c3,a3⟩
  | k+3,h=>absurd h (by simp)⟩

set_option maxRecDepth 100000 in
theorem fs (w:World):Calls Tryz.prog 207 #[] w (Y7 xl w):=by
 have HC:=z8 (fH w)
 go_enter Tryz.func207,Tryz.ntmps207
 go_wp2_with fail
 with_reducible refine HC.out.mono ?_
 rintro e w1 ⟨g1,lb1,rfl,ha,hb⟩
 have HA1:=z8 ha
 have HB1:=z8 hb
 have HC2:=z8 (ZW w1)
 clear ha hb HC
 go_wp2_with fail
 with_reducible refine HC2.out.mono ?_
 rintro e w2 ⟨g2,lb2,rfl,ha,hb⟩
 have HA2:=z8 ha
 have HA1':=z8 (HA1.out.later hb)
 have HB2:=z8 (z7 HB1.out hb)
 clear ha hb HC2 HA1 HB1
 go_wp2_with fail
 have bl:=za (Below.refl w2.heap.size w2) (.cells #[.func (.func g1) #[] lb1,.func (.func g2) #[] lb2] 213)
 refine (qk _ 2 _ [(_,vM),(_,UJ)] _ rfl (by omega) (uP.two (by simp) (by simp) (by simp) (HA1'.out.later bl) (HA2.out.later bl))).mono ?_
 rintro e w3 ⟨g,lb,rfl,ha,hb⟩
 have HA:=z8 (ha.like (p':=xl) fun x=>by simp [xl])
 have HB:=z8 (z7 (z7 HB2.out bl) hb)
 clear ha hb bl
 go_wp2
 go_ret
 exact ⟨g,lb,rfl,HA.out,HB.out⟩

set_option maxRecDepth 100000 in
theorem JK (w:World):Calls Tryz.prog 214 #[] w (Y7 fe w):=by
 have HC:=z8 (fs w)
 go_enter Tryz.func214,Tryz.ntmps214
 go_wp2_with fail
 with_reducible refine HC.out.mono ?_
 rintro e w1 ⟨g1,lb1,rfl,ha,hb⟩
 have HA1:=z8 ha
 have HB1:=z8 hb
 have HC2:=z8 (vA 45 45 45 45 rfl rfl w1)
 clear ha hb HC
 go_wp2_with fail
 with_reducible refine HC2.out.mono ?_
 rintro e w2 ⟨g2,lb2,rfl,ha,hb⟩
 have HA2:=z8 ha
 have HA1':=z8 (HA1.out.later hb)
 have HB2:=z8 (z7 HB1.out hb)
 have HC3:=z8 (vA 46 46 46 46 rfl rfl w2)
 clear ha hb HC2 HA1 HB1
 go_wp2_with fail
 with_reducible refine HC3.out.mono ?_
 rintro e w3 ⟨g3,lb3,rfl,ha,hb⟩
 have HA3:=z8 ha
 have HA1:=z8 (HA1'.out.later hb)
 have HA2':=z8 (HA2.out.later hb)
 have HB3:=z8 (z7 HB2.out hb)
 clear ha hb HC3 HA1' HA2 HB2
 go_wp2_with fail
 have bl:=za (Below.refl w3.heap.size w3) (.cells #[.func (.func g1) #[] lb1,.func (.func g2) #[] lb2,.func (.func g3) #[] lb3] 213)
 refine (qk _ 3 _ [(_,xl),(_,inR 45 45),(_,inR 46 46)] _ rfl (by omega) (uP.three (by simp) (by simp) (by simp) (by simp) (HA1.out.later bl) (HA2'.out.later bl) (HA3.out.later bl))).mono ?_
 rintro e w4 ⟨g,lb,rfl,ha,hb⟩
 have HA:=z8 (ha.like (p':=fe) fun x=>by simp [fe,Bool.or_assoc])
 have HB:=z8 (z7 (z7 HB3.out bl) hb)
 clear ha hb bl
 go_wp2
 go_ret
 exact ⟨g,lb,rfl,HA.out,HB.out⟩

def bt5 (s:ByteArray) (k:Nat):Int:=if h:k<s.size then ((s[k]'h).toNat:Int) else 0

set_option maxRecDepth 100000 in
theorem jh (s:ByteArray) (g:Nat) (lb:Array Value) (p:UInt8→Bool) (w:World) (hs:s.size≤9223372036854775807) (ha:Ya (.func (.func g) #[] lb) p w) :
  Calls Tryz.prog 213 #[.string s,.func (.func g) #[] lb] w fun e w'=>e=.returned (.bool (s.data.toList.all p))∧∃ q,w'=w.drewN q:=by
 obtain ⟨g',lb',hv,eg,hp⟩:=ha
 obtain ⟨rfl,rfl⟩:g'=g∧lb'=lb:=by simpa using hv.symm
 clear hv
 have HP:Hid (∀ (q:Nat) (x:UInt8),Calls Tryz.prog g' (#[encB x]++lb') (w.drewN q) fun e w'=>e=.returned (.bool (p x))∧∃ q',w'=(w.drewN q).drewN q'):=fun q x=>hp (w.drewN q) x (zn (Below.refl _ _) q)
 clear hp
 generalize hn:s.size=n at *
 obtain ⟨r,hr⟩:∃ r,r=s.data.toList.all p:=⟨_,rfl⟩
 rw [← hr]
 have HR:=z8 hr
 clear hr
 go_enter Tryz.func213,Tryz.ntmps213
 go_wp2
 go_loopg [5,8] n (fun gg _ s8 wr=>∃ kk q:Nat,kk≤n∧n - kk≤gg∧s8=.int .i64 kk∧wr=w.drewN q∧Hid (∀ j (h:j<s.size),j<kk→p s[j]=true))
 case atStart=>exact ⟨0,0,Nat.zero_le _,by omega,rfl,rfl,fun j _ hj=>absurd hj (Nat.not_lt_zero _)⟩
 case round =>
  obtain ⟨kk,q,hkk,hg,rfl,rfl,A⟩:=hrel
  by_cases hlt:kk<n
  ·
   have hltz:(kk:Int)<(n:Int):=by omega
   have hk:kk<s.size:=hn ▸ hlt
   have hx:∀ (h:kk<s.size),((s[kk]'h).toNat:Int)=bt5 s kk:=fun h=>by unfold bt5; rw [dif_pos h]
   have hcall:Calls Tryz.prog g' (#[Value.int .u8 (bt5 s kk)]++lb') (w.drewN q) (fun e w'=>e=.returned (.bool (p s[kk]))∧∃ q',w'=(w.drewN q).drewN q'):=by rw [← hx hk]; exact HP.out q s[kk]
   cases hq:p s[kk] with
   | true =>
    rw [hq] at hcall
    have HC:=z8 hcall
    have HQ:=z8 hq
    clear hq hcall
    go_wp2_with (go_at_fn g'; refine HC.out.mono ?_; rintro e w' ⟨rfl,q',rfl⟩)
    go_roundg (n - (kk+1))
    case measure=>omega
    case rel =>
     refine ⟨kk+1,_,by omega,by omega,by go_num,rfl,(show Hid _ from fun j h hj=>?_)⟩
     by_cases e:j=kk
     ·
      subst e
      exact HQ.out
     ·
      exact A.out j h (by omega)
   | false =>
    rw [hq] at hcall
    have HC:=z8 hcall
    have HQ:=z8 hq
    clear hq hcall
    go_wp2_with (go_at_fn g'; refine HC.out.mono ?_; rintro e w' ⟨rfl,q',rfl⟩)
    go_ret
    refine ⟨?_,_,rfl⟩
    have:(s.data.toList.all p)=false:=by
     rw [List.all_eq_false]
     exact ⟨s[kk],Array.mem_toList_iff.2 (Array.getElem_mem (xs:=s.data) (i:=kk) hk),by rw [HQ.out]; simp⟩
    rw [HR.out,this]; rfl
  ·
   have hltz:¬ (kk:Int)<(n:Int):=by omega
   have:kk=n:=by omega
   subst this
   have HN:=z8 hn
   clear hn
   go_wp2
   go_ret
   refine ⟨?_,q,rfl⟩
   have:(s.data.toList.all p)=true:=by
    rw [List.all_eq_true]
    intro a ha
    obtain ⟨j,hj,rfl⟩:=Array.getElem_of_mem (Array.mem_toList_iff.1 ha)
    exact A.out j hj (by have:=HN.out; rw [← this]; exact hj)
   rw [HR.out,this]; rfl
end Go.Proofs.YthmomkjingcbiaaGreatDoor
namespace Go.Proofs.YthmomkjingcbiaaGreatDoor
open Go.RowKit

def Zx (l:List UInt8):Bool:=decide (l.length≤12) && l.all fe
def zm (l:List UInt8):Bool:=decide (1≤l.length) && Zx l && vM (l.headD 0) && xl (l.getLastD 0)
def fU (x:UInt8):Bool:=UJ x || inR 97 102 x
def xo (l:List UInt8):Bool:=decide (1≤l.length) && decide (l.length≤12) && l.all fU

def yt (b:Bool) (w:World) (e:Ending) (w':World):Prop:=e=.returned (.bool b)∧Below w.heap.size w w'
def yi (n:Int) (w:World) (e:Ending) (w':World):Prop:=e=.returned (.int .i64 n)∧Below w.heap.size w w'

theorem zh (s:ByteArray):s.data.toList.length=s.size:=by simp

set_option maxRecDepth 100000 in
theorem VT (s:ByteArray) (w:World) (hs:s.size≤9223372036854775807) :
  Calls Tryz.prog 139 #[.string s] w (yt (Zx s.data.toList) w):=by
 generalize hr:Zx s.data.toList=r
 have hr':(decide (s.size≤12) && s.data.toList.all fe)=r:=by rw [← hr,Zx,zh]
 clear hr
 have HS:=z8 hs
 have HV:Hid (∀ g lb w,Ya (.func (.func g) #[] lb) fe w→Calls Tryz.prog 213 #[.string s,.func (.func g) #[] lb] w fun e w'=>e=.returned (.bool (s.data.toList.all fe))∧∃ q,w'=w.drewN q) :=
  fun g lb w ha=>jh s g lb fe w hs ha
 by_cases h12:s.size≤12
 ·
  have hr2:s.data.toList.all fe=r:=by simpa [h12] using hr'
  rw [hr2] at HV
  clear hr' hr2 hs
  generalize hn:s.size=n at *
  have z:(n:Int)≤12:=by omega
  have HC:=z8 (JK w)
  go_enter Tryz.func139,Tryz.ntmps139
  go_wp2_with fail
  with_reducible refine HC.out.mono ?_
  rintro e w1 ⟨g,lb,rfl,ha,hb⟩
  have HB:=z8 hb
  have HE:=z8 (HV.out g lb w1 ha)
  clear ha hb HC HV
  go_wp2_with fail
  with_reducible refine HE.out.mono ?_
  rintro e w2 ⟨rfl,q,rfl⟩
  go_wp2
  go_ret
  exact ⟨rfl,zn HB.out q⟩
 ·
  have hr2:false=r:=by simpa [h12] using hr'
  clear hr' HV
  subst hr2
  generalize hn:s.size=n at *
  have z:¬ (n:Int)≤12:=by omega
  go_enter Tryz.func139,Tryz.ntmps139
  go_wp2
  go_ret
  exact ⟨rfl,Below.refl _ _⟩

theorem Ya.at_ {g:Nat} {lb:Array Value} {p:UInt8→Bool} {w:World} (h:Ya (.func (.func g) #[] lb) p w) (x:UInt8) (n:Int) (hx:(x.toNat:Int)=n) (b:Bool) (hb:p x=b) :
  (∀ args w,(callFunc g args).run Tryz.prog w=.ok (.enter g args) w)∧Calls Tryz.prog g (#[.int .u8 n]++lb) w fun e w'=>e=.returned (.bool b)∧∃ q,w'=w.drewN q:=by
 obtain ⟨g',lb',hv,eg,hp⟩:=h
 obtain ⟨rfl,rfl⟩:g'=g∧lb'=lb:=by simpa using hv.symm
 subst hx; subst hb
 exact ⟨eg,hp w x (Below.refl _ _)⟩

theorem jQ (s:ByteArray) (k:Nat) (h:k<s.size):(s[k].toNat:Int)=bt5 s k:=by unfold bt5; rw [dif_pos h]

theorem head_at (s:ByteArray) (h:0<s.size):s.data.toList.headD 0=s[0]:=by
 obtain ⟨⟨l⟩⟩:=s
 cases l with
 | nil=>exact absurd h (by decide)
 | cons a l=>rfl
theorem last_at (s:ByteArray) (h:0<s.size):s.data.toList.getLastD 0=s[s.size - 1]:=by
 obtain ⟨⟨l⟩⟩:=s
 have hl0:l≠[]:=by intro e; subst e; exact absurd h (by decide)
 rw [List.getLastD_eq_getLast?,List.getLast?_eq_some_getLast hl0]
 simp [List.getLast_eq_getElem]
 rfl

set_option maxRecDepth 100000 in
theorem X1 (s:ByteArray) (w:World) (hs:s.size≤9223372036854775807) :
  Calls Tryz.prog 128 #[.string s] w (yt (zm s.data.toList) w):=by
 by_cases h0:s.size=0
 ·
  obtain rfl:s=⟨#[]⟩:=by
   obtain ⟨d⟩:=s
   obtain rfl:d=#[]:=Array.eq_empty_of_size_eq_zero h0
   rfl
  have:zm (ByteArray.mk #[]).data.toList=false:=rfl
  rw [this]
  clear this hs h0
  go_enter Tryz.func128,Tryz.ntmps128
  go_wp2
  go_ret
  exact ⟨rfl,Below.refl _ _⟩
 ·
  have hne:¬ s.toList=[]:=fun e=>h0 (by rw [← zh,← ByteArray.toList_eq,e]; rfl)
  have hne2:s.toList.isEmpty=false:=by simpa using hne
  have hpos:0<s.size:=by omega
  have hh:=head_at s hpos
  have hl:=last_at s hpos
  have he:zm s.data.toList=(Zx s.data.toList && vM s[0] && xl s[s.size - 1]):=by
   unfold zm
   rw [hh,hl,zh,decide_eq_true (by omega:1≤s.size),Bool.true_and]
  rw [he]
  clear he hh hl
  have HP:=z8 (VT s w hs)
  have hb0:=jQ s 0 hpos
  have hb1:=jQ s (s.size - 1) (by omega)
  have HA0:Hid (∀ g lb w,Ya (.func (.func g) #[] lb) vM w→_):=fun g lb w ha=>Ya.at_ (w:=w) (g:=g) (lb:=lb) ha s[0] _ hb0 _ rfl
  have HA1:Hid (∀ g lb w,Ya (.func (.func g) #[] lb) xl w→_):=fun g lb w ha=>Ya.at_ (w:=w) (g:=g) (lb:=lb) ha s[s.size - 1] _ hb1 _ rfl
  have HS0:Hid (∀ (h:0<s.size),((s[0]'h).toNat:Int)=bt5 s 0):=fun h=>jQ s 0 h
  have HS1:Hid (∀ (h:s.size - 1<s.size),((s[s.size - 1]'h).toNat:Int)=bt5 s (s.size - 1)):=fun h=>jQ s _ h
  clear hb0 hb1
  generalize Zx s.data.toList=bp at *
  generalize vM s[0]=b0 at *
  generalize xl s[s.size - 1]=b1 at *
  generalize bt5 s 0=n0 at *
  generalize hn1:bt5 s (s.size - 1)=n1 at *
  clear hn1
  cases bp with
  | false =>
   show Calls _ _ _ _ (yt false w)
   clear HA0 HA1 HS0 HS1
   generalize hn:s.size=n at *
   go_enter Tryz.func128,Tryz.ntmps128
   go_wp2_with fail
   with_reducible refine HP.out.mono ?_
   rintro e w1 ⟨rfl,hb⟩
   have HB:=z8 hb
   clear hb HP
   go_wp2
   go_ret
   exact ⟨rfl,HB.out⟩
  | true =>
   show Calls _ _ _ _ (yt (b0 && b1) w)
   have hs0:=HS0.out
   have hs1:=HS1.out
   have z:(s.size:Int) - 1=((s.size - 1:Nat):Int):=by omega
   clear HS0 HS1
   go_enter Tryz.func128,Tryz.ntmps128
   go_wp2_with fail
   with_reducible refine HP.out.mono ?_
   rintro e w1 ⟨rfl,hb⟩
   have HB:=z8 hb
   clear hb HP
   go_wp2_with fail
   go_quiet (fail)
   clear hs0 hs1 z
   generalize hw2:w1.drewN nq=w2
   have HB2:=z8 (hw2 ▸ zn HB.out nq)
   clear hw2 HB
   generalize hn:s.size=n at *
   generalize ((n - 1:Nat):Int)=nm at *
   have HC:=z8 (fH w2)
   go_wp2_with fail
   with_reducible refine HC.out.mono ?_
   rintro e w3 ⟨g,lb,rfl,ha,hb⟩
   have HB3:=z8 (z7 HB2.out hb)
   obtain ⟨eg,hc⟩:=HA0.out g lb w3 ha
   have HC0:=z8 hc
   clear ha hb HC HB2 HA0 hc
   cases b0 with
   | false =>
    show _
    go_wp2_with (go_at_fn g; refine HC0.out.mono ?_; rintro e w4 ⟨rfl,q,rfl⟩)
    go_ret
    exact ⟨rfl,zn HB3.out q⟩
   | true =>
    go_wp2_with (first | (go_at_fn g; refine HC0.out.mono ?_; rintro e w4 ⟨rfl,q,rfl⟩) | fail)
    have HD:=z8 (fs (w3.drewN q))
    with_reducible refine HD.out.mono ?_
    rintro e w5 ⟨g',lb',rfl,ha,hb⟩
    have HB5:=z8 (z7 (zn HB3.out q) hb)
    obtain ⟨eg',hc⟩:=HA1.out g' lb' w5 ha
    have HC1:=z8 hc
    clear ha hb HB3 HA1 hc HD eg HC0
    go_wp2_with (go_at_fn g'; refine HC1.out.mono ?_; rintro e w6 ⟨rfl,q',rfl⟩)
    go_ret
    exact ⟨by simp,zn HB5.out q'⟩

set_option maxRecDepth 100000 in
theorem Fl (s:ByteArray) (w:World) (hs:s.size≤9223372036854775807) :
  Calls Tryz.prog 203 #[.string s] w (yt (xo s.data.toList) w):=by
 by_cases h0:s.size=0
 ·
  obtain rfl:s=⟨#[]⟩:=by
   obtain ⟨d⟩:=s
   obtain rfl:d=#[]:=Array.eq_empty_of_size_eq_zero h0
   rfl
  have:xo (ByteArray.mk #[]).data.toList=false:=rfl
  rw [this]
  clear this hs h0
  go_enter Tryz.func203,Tryz.ntmps203
  go_wp2
  go_ret
  exact ⟨rfl,Below.refl _ _⟩
 ·
  have hne:¬ s.toList=[]:=fun e=>h0 (by rw [← zh,← ByteArray.toList_eq,e]; rfl)
  have hne2:s.toList.isEmpty=false:=by simpa using hne
  have he:xo s.data.toList=(decide (s.size≤12) && s.data.toList.all fU):=by
   unfold xo
   rw [zh,decide_eq_true (by omega:1≤s.size),Bool.true_and]
  have HV:Hid (∀ g lb w,Ya (.func (.func g) #[] lb) fU w→Calls Tryz.prog 213 #[.string s,.func (.func g) #[] lb] w fun e w'=>e=.returned (.bool (s.data.toList.all fU))∧∃ q,w'=w.drewN q) :=
   fun g lb w ha=>jh s g lb fU w hs ha
  by_cases h12:s.size≤12
  ·
   rw [he,decide_eq_true h12,Bool.true_and]
   clear he
   generalize s.data.toList.all fU=r at *
   generalize hn:s.size=n at *
   have z:(n:Int)≤12:=by omega
   have HC:=z8 (ZW w)
   go_enter Tryz.func203,Tryz.ntmps203
   go_wp2_with fail
   with_reducible refine HC.out.mono ?_
   rintro e w1 ⟨g1,lb1,rfl,ha,hb⟩
   have HA1:=z8 ha
   have HB1:=z8 hb
   have HC2:=z8 (vA 97 102 97 102 rfl rfl w1)
   clear ha hb HC
   go_wp2_with fail
   with_reducible refine HC2.out.mono ?_
   rintro e w2 ⟨g2,lb2,rfl,ha,hb⟩
   have HA2:=z8 ha
   have HA1':=z8 (HA1.out.later hb)
   have HB2:=z8 (z7 HB1.out hb)
   clear ha hb HC2 HA1 HB1
   go_wp2_with fail
   have bl:=za (Below.refl w2.heap.size w2) (.cells #[.func (.func g1) #[] lb1,.func (.func g2) #[] lb2] 213)
   refine (qk _ 2 _ [(_,UJ),(_,inR 97 102)] _ rfl (by omega) (uP.two (by simp) (by simp) (by simp) (HA1'.out.later bl) (HA2.out.later bl))).mono ?_
   rintro e w3 ⟨g,lb,rfl,ha,hb⟩
   have HE:=z8 (HV.out g lb w3 (ha.like (p':=fU) fun x=>by simp [fU]))
   have HB:=z8 (z7 (z7 HB2.out bl) hb)
   clear ha hb bl HV HA1' HA2 HB2
   go_wp2_with fail
   with_reducible refine HE.out.mono ?_
   rintro e w4 ⟨rfl,q,rfl⟩
   go_wp2
   go_ret
   exact ⟨rfl,zn HB.out q⟩
  ·
   rw [he,decide_eq_false h12,Bool.false_and]
   clear he HV
   generalize hn:s.size=n at *
   have z:¬ (n:Int)≤12:=by omega
   go_enter Tryz.func203,Tryz.ntmps203
   go_wp2
   go_ret
   exact ⟨rfl,Below.refl _ _⟩

def zA (b:Bool) (n:Int):Int:=if b then 0 else n

set_option maxRecDepth 100000 in
theorem vD (s:ByteArray) (w:World) (hs:s.size≤9223372036854775807) :
  Calls Tryz.prog 52 #[.string s] w (yi (zA (zm s.data.toList) 10) w):=by
 have HP:=z8 (X1 s w hs)
 generalize zm s.data.toList=b at *
 cases b with
 | false =>
  show Calls _ _ _ _ (yi 10 w)
  go_enter Tryz.func52,Tryz.ntmps52
  go_wp2_with fail
  with_reducible refine HP.out.mono ?_
  rintro e w1 ⟨rfl,hb⟩
  have HB:=z8 hb
  clear hb HP
  go_wp2
  go_ret
  exact ⟨rfl,HB.out⟩
 | true =>
  show Calls _ _ _ _ (yi 0 w)
  go_enter Tryz.func52,Tryz.ntmps52
  go_wp2_with fail
  with_reducible refine HP.out.mono ?_
  rintro e w1 ⟨rfl,hb⟩
  have HB:=z8 hb
  clear hb HP
  go_wp2
  go_ret
  exact ⟨rfl,HB.out⟩


set_option maxRecDepth 100000 in
theorem FR (s:ByteArray) (w:World) (hs:s.size≤9223372036854775807) :
  Calls Tryz.prog 116 #[.string s] w (yi (zA (xo s.data.toList) 4) w):=by
 have HP:=z8 (Fl s w hs)
 generalize xo s.data.toList=b at *
 cases b with
 | false =>
  show Calls _ _ _ _ (yi 4 w)
  go_enter Tryz.func116,Tryz.ntmps116
  go_wp2_with fail
  with_reducible refine HP.out.mono ?_
  rintro e w1 ⟨rfl,hb⟩
  have HB:=z8 hb
  clear hb HP
  go_wp2
  go_ret
  exact ⟨rfl,HB.out⟩
 | true =>
  show Calls _ _ _ _ (yi 0 w)
  go_enter Tryz.func116,Tryz.ntmps116
  go_wp2_with fail
  with_reducible refine HP.out.mono ?_
  rintro e w1 ⟨rfl,hb⟩
  have HB:=z8 hb
  clear hb HP
  go_wp2
  go_ret
  exact ⟨rfl,HB.out⟩

def qK (x:UInt8):UInt8:=if inR 65 90 x then x+32 else x
def zF (l:List UInt8):List UInt8:=l.map qK

theorem Uw {x:UInt8} (h:inR 65 90 x=true):((qK x).toNat:Int)=(x.toNat:Int) - 65+97∧65≤x.toNat∧x.toNat≤90:=by
 have h2:65≤x.toNat∧x.toNat≤90:=by simpa [inR] using h
 refine ⟨?_,h2.1,h2.2⟩
 unfold qK
 rw [if_pos h,UInt8.toNat_add]
 have:(32:UInt8).toNat=32:=rfl
 rw [this]
 omega
theorem qA {x:UInt8} (h:inR 65 90 x=false):qK x=x:=by unfold qK; rw [h]; simp

def J5 (w:World) (B n:Nat) (f:Nat→UInt8):Prop :=
 B<w.heap.size∧∀ j,j<n→w.cell? ⟨B,j,none⟩=some (.int .u8 (f j).toNat)∧w.frozen? ⟨B,j,none⟩=false
theorem J5.drewN {w:World} {B n:Nat} {f:Nat→UInt8} (h:J5 w B n f) (q:Nat):J5 (w.drewN q) B n f:=h
theorem J5.set {w:World} {B n:Nat} {f:Nat→UInt8} (h:J5 w B n f) (k:Nat) (hk:k<n) (x:Int) (y:UInt8) (hx:(y.toNat:Int)=x) :
  J5 (w.setCell ⟨B,k,none⟩ (.int .u8 x)) B n (fun j=>if j=k then y else f j):=by
 refine ⟨by have:=h.1; simpa [World.setCell] using this,fun j hj=>⟨?_,?_⟩⟩
 ·
  by_cases e:j=k
  ·
   subst e
   simp only [if_true,hx]
   exact World.cell?_setCell_same _ _ _ (h.2 j hj).1
  ·
   rw [World.cell?_setCell_other _ _ _ _ (fun he=>e (by injection he with _ h2 _; exact h2.symm))]
   simp only [if_neg e]
   exact (h.2 j hj).1
 ·
  have:=(h.2 j hj).2
  simpa [World.frozen?_setCell] using this

theorem J5.like {w:World} {B n:Nat} {f g:Nat→UInt8} (h:J5 w B n f) (e:∀ j,f j=g j):J5 w B n g:=(funext e:f=g) ▸ h

theorem row_new (w:World) (s:ByteArray) (cap:Nat) (t:TypeId) :
  J5 (w.alloc (.cells (bytesRow s cap) t ((bytesRow s cap).size,(bytesRow s cap).size+1))) w.heap.size s.size (fun j=>s.data.toList.getD j 0):=by
 refine ⟨by simp,fun j hj=>⟨?_,?_⟩⟩
 ·
  rw [World.cell?_alloc_mark]
  have hj':j<s.data.size:=hj
  simp only [bytesRow,Array.getElem?_append,Array.size_map]
  rw [if_pos hj',Array.getElem?_map,Array.getElem?_eq_getElem hj']
  simp only [List.getD,Array.getElem?_toList,Array.getElem?_eq_getElem hj',Option.getD_some,Option.map_some]
 ·
  rw [World.frozen?_alloc_mark]
  have:s.size≤(bytesRow s cap).size:=by
   have:(bytesRow s cap).size=s.data.size+(cap - s.size):=by simp [bytesRow]
   have e:s.data.size=s.size:=rfl
   omega
  simp only [Bool.and_eq_false_iff,decide_eq_false_iff_not]
  left; omega

theorem JQ {w:World} {B n cap:Nat} {f:Nat→UInt8} (h:J5 w B n f) :
  (convert 22 9 (.slice (some ⟨B,0,none⟩) n cap)).run Tryz.prog w=.ok (.string ⟨((List.range n).map f).toArray⟩) w:=by
 have hr:Rd w (.slice (some ⟨B,0,none⟩) n cap) ((List.range n).map f):=by
  refine ⟨some ⟨B,0,none⟩,cap,by simp,fun _=>⟨_,rfl,h.1,fun j u hu=>?_⟩⟩
  have hadd:(⟨B,0,none⟩:Addr).add j=⟨B,j,none⟩:=by unfold Addr.add; split <;> simp_all
  have hj:j<n:=by
   have:=(List.getElem?_eq_some_iff.1 hu).1
   simpa [ug] using this
  rw [hadd,(h.2 j hj).1]
  simp [cellsOf,hj] at hu
  rw [← hu]
 exact hr.string Tryz.underlying22 Tryz.underlying5 Tryz.underlying9

set_option maxRecDepth 100000 in
theorem Fw (s:ByteArray) (w:World) (hs:s.size≤9223372036854775807) :
  Calls Tryz.prog 252 #[.string s] w fun e w'=>e=.returned (.string ⟨(zF s.data.toList).toArray⟩)∧Below w.heap.size w w':=by
 obtain ⟨r,hr⟩:∃ r,r=(⟨(zF s.data.toList).toArray⟩:ByteArray):=⟨_,rfl⟩
 rw [← hr]
 have HR:=z8 hr
 clear hr
 have HC:=z8 (vA 65 90 65 90 rfl rfl w)
 have HS:=z8 hs
 generalize hn:s.size=n at *
 have HN:=z8 hn
 go_enter Tryz.func252,Tryz.ntmps252
 go_wp2_with fail
 with_reducible refine HC.out.mono ?_
 rintro e w1 ⟨g,lb,rfl,ha,hb⟩
 have HB1:=z8 hb
 have HA:=z8 ha
 clear ha hb HC
 have hcv:=run_bytes_of_string (P:=Tryz.prog) w1 9 22 5 s Tryz.underlying9 Tryz.underlying22 Tryz.underlying5
 rw [hn] at hcv
 have hro:=row_new w1.drew s (grownCap w1 n 0 5) 5
 rw [hn] at hro
 generalize grownCap w1 n 0 5=cap at hcv hro
 have hb2:=za (zy (Below.refl w1.heap.size w1)) (.cells (bytesRow s cap) 5 ((bytesRow s cap).size,(bytesRow s cap).size+1))
 have HZ:=z8 (show w1.heap.size<(w1.drew.alloc (.cells (bytesRow s cap) 5 ((bytesRow s cap).size,(bytesRow s cap).size+1))).heap.size by simp)
 generalize w1.drew.alloc (.cells (bytesRow s cap) 5 ((bytesRow s cap).size,(bytesRow s cap).size+1))=w2 at *
 have HRO:=z8 hro
 have HB2:=z8 hb2
 clear hro hb2 hn
 generalize hB:w1.heap.size=B at *
 have HBe:=z8 hB
 clear hB
 generalize hf0:(fun j=>s.data.toList.getD j 0)=f0 at *
 have HF0:=z8 hf0
 clear hf0
 have HRO':Hid (J5 w2 B n f0):=HBe.out ▸ HRO.out
 have HB2':Hid (Below w1.heap.size w1 w2):=HBe.out ▸ HB2.out
 clear HRO HB2
 go_wp2
 go_loopg [5,6,12] n (fun gg _ _ s12 wr=>∃ k:Nat,k≤n∧n - k≤gg∧s12=.int .i64 k∧Hid (J5 wr B n (fun j=>if j<k then qK (f0 j) else f0 j))∧Hid (Below w1.heap.size w1 wr))
 case atStart=>exact ⟨0,Nat.zero_le _,by omega,rfl,by simpa using HRO',HB2'⟩
 case round =>
  obtain ⟨k,hk,hg,rfl,HR1,HW⟩:=hrel
  by_cases hlt:k<n
  ·
   have hltz:(k:Int)<(n:Int):=by omega
   have hcell:=(HR1.out.2 k hlt).1
   have hfz:=(HR1.out.2 k hlt).2
   simp only [Nat.lt_irrefl,if_false] at hcell
   cases hq:inR 65 90 (f0 k) with
   | true =>
    obtain ⟨e1,e2,e3⟩:=Uw hq
    obtain ⟨eg,hc⟩:=(HA.out.later HW.out).at_ (f0 k) _ rfl _ hq
    have HC0:=z8 hc
    have HY:Hid (∀ q,J5 ((wr.drewN q).setCell ⟨B,k,none⟩ (.int .u8 ((f0 k).toNat - 65+97))) B n (fun j=>if j<k+1 then qK (f0 j) else f0 j)):=fun q=>by
     have:=(HR1.out.drewN q).set k hlt _ (qK (f0 k)) e1
     refine this.like fun j=>?_
     by_cases h1:j=k
     ·
      subst h1; simp
     ·
      by_cases h2:j<k
      ·
       simp [h1,h2,Nat.lt_succ_of_lt h2]
      ·
       have:¬ j<k+1:=by omega
       simp [h1,h2,this]
    have HWB:Hid (∀ q v,Below w1.heap.size w1 ((wr.drewN q).setCell ⟨B,k,none⟩ v)):=fun q v=>(zn HW.out q).setCell (p:=⟨B,k,none⟩) (by rw [HBe.out]; exact Nat.le_refl _) v
    clear hc hq e1
    generalize ((f0 k).toNat:Nat)=x at *
    have z1:IntKind.u8.wrap ((x:Int) - 65)=(x:Int) - 65:=by unfold IntKind.wrap; simp [IntKind.bits,IntKind.signed]; omega
    have z2:IntKind.u8.wrap ((x:Int) - 65+97)=(x:Int) - 65+97:=by unfold IntKind.wrap; simp [IntKind.bits,IntKind.signed]; omega
    go_wp2_with (go_at_fn g; refine HC0.out.mono ?_; rintro e w4 ⟨rfl,q,rfl⟩)
    go_roundg (n - (k+1))
    case measure=>omega
    case rel=>exact ⟨k+1,by omega,by omega,by go_num,HY.out q,HWB.out q _⟩
   | false =>
    obtain ⟨eg,hc⟩:=(HA.out.later HW.out).at_ (f0 k) _ rfl _ hq
    have HC0:=z8 hc
    have HY:Hid (J5 wr B n (fun j=>if j<k+1 then qK (f0 j) else f0 j)):=by
     refine HR1.out.like fun j=>?_
     by_cases h1:j=k
     ·
      subst h1; simp [qA hq]
     ·
      by_cases h2:j<k
      ·
       simp [h2,Nat.lt_succ_of_lt h2]
      ·
       have:¬ j<k+1:=by omega
       simp [h2,this]
    clear hc hq
    generalize ((f0 k).toNat:Nat)=x at *
    go_wp2_with (go_at_fn g; refine HC0.out.mono ?_; rintro e w4 ⟨rfl,q,rfl⟩)
    go_roundg (n - (k+1))
    case measure=>omega
    case rel=>exact ⟨k+1,by omega,by omega,by go_num,HY,zn HW.out q⟩
  ·
   have hltz:¬ (k:Int)<(n:Int):=by omega
   obtain rfl:k=n:=by omega
   have hst:=JQ (cap:=cap) HR1.out
   have he:(⟨((List.range k).map fun j=>if j<k then qK (f0 j) else f0 j).toArray⟩:ByteArray)=r:=by
    rw [HR.out]
    congr 2
    unfold zF
    have hl:s.data.toList.length=k:=by rw [zh]; exact HN.out
    apply List.ext_getElem (by simp [hl])
    intro j h1 h2
    have hj:j<k:=by simpa using h1
    have hjs:j<s.data.size:=by have:=HN.out; rw [← this] at hj; exact hj
    simp only [List.getElem_map,List.getElem_range,if_pos hj,← HF0.out]
    simp only [List.getD,Array.getElem?_toList,Array.getElem?_eq_getElem hjs,Option.getD_some,Array.getElem_toList]
   rw [he] at hst
   clear he
   have HW':=z8 (z7 HB1.out HW.out)
   clear HW
   go_wp2
   go_ret
   exact ⟨rfl,HW'.out⟩
end Go.Proofs.YthmomkjingcbiaaGreatDoor
namespace Go.Proofs.YthmomkjingcbiaaGreatDoor

def xL (c:UInt8):List UInt8→List (List UInt8)
 | []=>[[]]
 | x::l=>if x=c then []::xL c l else (x::(xL c l).headD [])::(xL c l).tail

theorem Jd (c:UInt8) (l:List UInt8):∃ p ps,xL c l=p::ps:=by
 cases l with
 | nil=>exact ⟨_,_,rfl⟩
 | cons x l =>
  unfold xL
  split
  ·
   exact ⟨_,_,rfl⟩
  ·
   exact ⟨_,_,rfl⟩

theorem YZ (c:UInt8):∀ l:List UInt8,(Lib.indexByte l c=-1→xL c l=[l]) ∧
  (∀ i:Nat,Lib.indexByte l c=i→xL c l=l.take i::xL c (l.drop (i+1)))
 | []=>⟨fun _=>rfl,fun i h=>by simp [Lib.indexByte] at h⟩
 | x::l=>by
  obtain ⟨h1,h2⟩:=YZ c l
  have hg:=Lib.indexByte_ge l c
  unfold Lib.indexByte
  by_cases e:x=c
  ·
   subst e
   refine ⟨fun h=>by simp at h,fun i h=>?_⟩
   simp at h
   obtain rfl:i=0:=by omega
   simp [xL]
  ·
   have e':(x == c)=false:=by simpa using e
   rw [e']
   by_cases hm:Lib.indexByte l c=-1
   ·
    refine ⟨fun _=>?_,fun i h=>by simp [hm] at h⟩
    simp [xL,e,h1 hm]
   ·
    have hm':(Lib.indexByte l c == -1)=false:=by simpa using hm
    rw [hm']
    refine ⟨fun h=>by simp at h; omega,fun i h=>?_⟩
    simp at h
    obtain ⟨j,hj⟩:=Int.eq_ofNat_of_zero_le (show 0≤Lib.indexByte l c by omega)
    obtain rfl:i=j+1:=by omega
    simp [xL,e,h2 j hj]

theorem Zi (c:UInt8):∀ (n:Nat) (l:List UInt8),l.length≤n→Lib.splitK [c] 0 (Lib.count l [c]) l=xL c l
 | n,l,hn=>by
  obtain ⟨h1,h2⟩:=YZ c l
  have hi:=Lib.index_one l c
  by_cases hm:Lib.indexByte l c=-1
  ·
   rw [Lib.count_miss (hi.trans hm),h1 hm]; rfl
  ·
   have hg:=Lib.indexByte_ge l c
   obtain ⟨i,hj⟩:=Int.eq_ofNat_of_zero_le (show 0≤Lib.indexByte l c by omega)
   have hr:=Lib.index_room l [c] (by rw [hi,hj]; omega)
   rw [hi,hj] at hr
   simp at hr
   cases n with
   | zero=>omega
   | succ n =>
    have hc:Lib.count l [c]=1+Lib.count (l.drop (i+1)) [c]:=by
     have:=Lib.count_hit (s:=l) (sub:=[c]) (i:=i) (by simp) (hi.trans hj)
     simpa using this
    rw [hc,Nat.add_comm,h2 i hj,← Zi c n (l.drop (i+1)) (by simp; omega)]
    have hne:(Lib.index l [c] == -1)=false:=by rw [hi,hj]; simp
    rw [Lib.splitK,hne]
    simp [hi,hj]

def Qu (p:UInt8→Bool) (l:List UInt8):Bool:=decide (1≤l.length) && l.all p
def FF (p:UInt8→Bool) (l:List UInt8):Bool:=(xL 46 l).all (Qu p) && decide (2≤(xL 46 l).length)
def Yh (p:UInt8→Bool):List UInt8→Nat→Nat→Bool
 | [],st,lg=>decide (1≤st) && decide (1≤lg)
 | x::l,st,lg=>if x=46 then (if lg=0 then false else Yh p l (st+1) 0) else if p x then Yh p l st (lg+1) else false

theorem qU (p:UInt8→Bool):∀ (l:List UInt8) (st lg:Nat) (q:List UInt8) (qs:List (List UInt8)),xL 46 l=q::qs →
  Yh p l st lg=(q.all p && decide (1≤lg+q.length) && qs.all (Qu p) && decide (1≤st+qs.length))
 | [],st,lg,q,qs,h=>by
  simp [xL] at h
  obtain ⟨rfl,rfl⟩:=h
  simp [Yh,Bool.and_comm]
 | x::l,st,lg,q,qs,h=>by
  obtain ⟨q',qs',h'⟩:=Jd 46 l
  rw [xL,h'] at h
  unfold Yh
  by_cases e:x=46
  ·
   rw [if_pos e] at h ⊢
   simp at h
   obtain ⟨rfl,rfl⟩:=h
   by_cases hl:lg=0
   ·
    subst hl; simp
   ·
    rw [if_neg hl,qU p l (st+1) 0 q' qs' h']
    have z1:decide (1≤lg+([]:List UInt8).length)=true:=by simp; omega
    have z2:decide (1≤st+1+qs'.length)=true:=by simp; omega
    have z3:decide (1≤st+(q'::qs').length)=true:=by simp; omega
    rw [z1,z2,z3]
    simp [Qu,Bool.and_comm]
  ·
   rw [if_neg e] at h ⊢
   simp at h
   obtain ⟨rfl,rfl⟩:=h
   cases hp:p x with
   | false=>simp [hp]
   | true =>
    rw [if_pos rfl,qU p l st (lg+1) q' qs' h']
    have z1:decide (1≤lg+(x::q').length)=true:=by simp; omega
    have z2:decide (1≤lg+1+q'.length)=true:=by simp; omega
    rw [z1,z2]
    simp [hp]

theorem scan5_dom (p:UInt8→Bool) (l:List UInt8):Yh p l 0 0=FF p l:=by
 obtain ⟨q,qs,h⟩:=Jd 46 l
 rw [qU p l 0 0 q qs h,FF,h]
 have:decide (1≤0+qs.length)=decide (2≤(q::qs).length):=by simp
 rw [this]
 simp [Qu,Bool.and_comm,Bool.and_assoc,Bool.and_left_comm]

end Go.Proofs.YthmomkjingcbiaaGreatDoor
namespace Go.Proofs.YthmomkjingcbiaaGreatDoor
open Go.RowKit

def vm (w:World):Prop:=0<w.heap.size∧∃ m,w.cell? ⟨0,0,none⟩=some (.int .i64 m)
theorem vm.later {w W:World} (h:vm w) (hb:Below w.heap.size w W):vm W :=
 ⟨Nat.lt_of_lt_of_le h.1 hb.size,by obtain ⟨m,hm⟩:=h.2; exact ⟨m,(hb.cell (p:=⟨0,0,none⟩) h.1).trans hm⟩⟩

def FS (l:List UInt8):Bool:=Qu xl l

theorem FE (s:ByteArray):FF xl s.data.toList =
  ((Lib.splitB ⟨#[46]⟩ 0 (Lib.countB s ⟨#[46]⟩) s).all (fun x=>FS x.data.toList) && decide (2≤Lib.countB s ⟨#[46]⟩+1)):=by
 have h1:=Lib.splitB_data ⟨#[46]⟩ 0 (Lib.countB s ⟨#[46]⟩) s
 have h2:Lib.splitK [46] 0 (Lib.count s.data.toList [46]) s.data.toList=xL 46 s.data.toList:=Zi 46 _ _ (Nat.le_refl _)
 have h3:(Lib.splitB ⟨#[46]⟩ 0 (Lib.countB s ⟨#[46]⟩) s).map (·.data.toList)=xL 46 s.data.toList:=h1.trans h2
 have h4:=Lib.splitB_all ⟨#[46]⟩ (by decide) 0 (Lib.countB s ⟨#[46]⟩) s rfl
 unfold FF
 rw [← h3,← h4]
 simp [List.all_map,Function.comp_def,FS]

theorem YY (sep:ByteArray):∀ (k:Nat) (s:ByteArray) (x:ByteArray),x∈Lib.splitB sep 0 k s→x.size≤s.size
 | 0,s,x,h=>by simp [Lib.splitB] at h; subst h; exact Nat.le_refl _
 | k+1,s,x,h=>by
  unfold Lib.splitB at h
  split at h
  ·
   simp at h; subst h; exact Nat.le_refl _
  ·
   rcases List.mem_cons.1 h with rfl | h
   ·
    simp; exact Nat.min_le_right _ _
   ·
    have:=YY sep k _ x h
    have e:(s.extract ((Lib.indexB s sep).toNat+sep.size) s.size).size≤s.size:=by simp
    omega

theorem F8 (w:World) (l:List ByteArray) (t:TypeId) (j:Nat) (hj:j<l.length) :
  (w.alloc (.cells (l.map Value.string).toArray t)).cell? ⟨w.heap.size,j,none⟩=some (.string l[j]):=by
 rw [World.cell?_alloc_at _ _ _ _ rfl]
 simp [hj]

set_option maxRecDepth 100000 in
theorem UI (s:ByteArray) (w:World) (hs:s.size≤1000) (hm:vm w) :
  Calls Tryz.prog 254 #[.string s] w (yt (FF xl s.data.toList) w):=by
 rw [FE]
 have hle:=Lib.countB_le ⟨#[46]⟩ (by decide) s.size s (Nat.le_refl _)
 have hlen:=Lib.splitB_all ⟨#[46]⟩ (by decide) 0 (Lib.countB s ⟨#[46]⟩) s rfl
 obtain ⟨h0,m,hm⟩:=hm
 have HC:=z8 (Tryz.strings_Split s ⟨#[46]⟩ m w (by omega) hm (by decide))
 have HPS:Hid (∀ x∈Lib.splitB ⟨#[46]⟩ 0 (Lib.countB s ⟨#[46]⟩) s,x.size≤1000):=fun x hx=>Nat.le_trans (YY _ _ _ x hx) hs
 generalize Lib.splitB ⟨#[46]⟩ 0 (Lib.countB s ⟨#[46]⟩) s=ps at *
 generalize hcn:Lib.countB s ⟨#[46]⟩+1=n at *
 have hn:n≤1001:=by omega
 have hpc:=F8 w ps 9
 have hb1:=za (Below.refl w.heap.size w) (.cells (ps.map Value.string).toArray 9)
 have hB:w.heap.size<(w.alloc (.cells (ps.map Value.string).toArray 9)).heap.size:=by simp
 generalize w.alloc (.cells (ps.map Value.string).toArray 9)=w1 at *
 generalize hBB:w.heap.size=B at HC hpc hB
 have HPC:=z8 hpc
 have HB1:=z8 hb1
 have HB:=z8 hB
 have HL:=z8 hlen
 obtain ⟨r,hr⟩:∃ r,r=(ps.all (fun x=>FS x.data.toList) && decide (2≤n)):=⟨_,rfl⟩
 rw [← hr]
 have HR:=z8 hr
 clear hpc hb1 hB hlen hcn hm h0 hle hBB hr
 go_enter Tryz.func254,Tryz.ntmps254
 go_wp2_with fail
 with_reducible refine HC.out.mono ?_
 rintro e w1' ⟨rfl,rfl⟩
 clear HC
 go_wp2
 go_loopg [5,10] n (fun gg _ s10 wr=>∃ k:Nat,k≤n∧n - k≤gg∧s10=.int .i64 k∧Hid (Below w1'.heap.size w1' wr)∧Hid (∀ j (h:j<ps.length),j<k→FS ps[j].data.toList=true))
 case atStart=>exact ⟨0,Nat.zero_le _,by omega,rfl,Below.refl _ _,fun j _ hj=>absurd hj (Nat.not_lt_zero _)⟩
 case round =>
  obtain ⟨k,hk,hg,rfl,HW,A⟩:=hrel
  by_cases hlt:k<n
  ·
   have hltz:(k:Int)<(n:Int):=by omega
   have hkl:k<ps.length:=by rw [HL.out]; exact hlt
   have hcell:=(HW.out.cell (p:=⟨B,k,none⟩) HB.out).trans (HPC.out k hkl)
   have hsz:=HPS.out ps[k] (List.getElem_mem hkl)
   have HLB:Hid (FS ps[k].data.toList=(decide (1≤ps[k].size) && ps[k].data.toList.all xl)):=by
    show Qu xl _=_
    unfold Qu
    rw [zh]
   have HM:=z8 (List.getElem_mem hkl)
   have HA2:Hid (FS ps[k].data.toList=true→∀ j (h:j<ps.length),j<k+1→FS ps[j].data.toList=true):=fun hl j h hj=>by
    by_cases e:j=k
    ·
     subst e; exact hl
    ·
     exact A.out j h (by omega)
   generalize ps[k]=x at *
   have HF:Hid (FS x.data.toList=false→r=false):=fun hf=>by
    rw [HR.out]
    have:ps.all (fun x=>FS x.data.toList)=false:=List.all_eq_false.2 ⟨x,HM.out,by rw [hf]; simp⟩
    rw [this]; rfl
   have HBW:=z8 (z7 HB1.out HW.out)
   by_cases h0:x.size=0
   ·
    have hne:x.toList=[]:=by
     have:x.toList.length=0:=by rw [ByteArray.toList_eq,zh]; exact h0
     exact List.eq_nil_of_length_eq_zero this
    have hrf:r=false:=HF.out (by rw [HLB.out,h0]; rfl)
    subst hrf
    clear HF
    go_wp2
    go_ret
    exact ⟨rfl,HBW.out⟩
   ·
    have hne:¬ x.toList=[]:=fun e=>h0 (by rw [← zh,← ByteArray.toList_eq,e]; rfl)
    have hne2:x.toList.isEmpty=false:=by simpa using hne
    have hlb:FS x.data.toList=x.data.toList.all xl:=by rw [HLB.out,decide_eq_true (by omega:1≤x.size),Bool.true_and]
    have HD:=z8 (fs wr)
    have HV:Hid (∀ g lb w,Ya (.func (.func g) #[] lb) xl w→Calls Tryz.prog 213 #[.string x,.func (.func g) #[] lb] w fun e w'=>e=.returned (.bool (x.data.toList.all xl))∧∃ q,w'=w.drewN q) :=
     fun g lb w ha=>jh x g lb xl w (by omega) ha
    rw [← hlb] at HV
    have HW2:Hid (∀ w2 q,Below wr.heap.size wr w2→Below w1'.heap.size w1' (w2.drewN q)):=fun w2 q hb=>zn (z7 HW.out hb) q
    have HBW2:Hid (∀ w2 q,Below wr.heap.size wr w2→Below w.heap.size w (w2.drewN q)):=fun w2 q hb=>zn (z7 HBW.out hb) q
    clear HLB hlb h0 HW HBW
    cases hq:FS x.data.toList with
    | true =>
     rw [hq] at HV
     have HX:=z8 (HA2.out hq)
     clear hq HF HA2 HBW2
     go_wp2_with fail
     with_reducible refine HD.out.mono ?_
     rintro e w2 ⟨g,lb,rfl,ha,hb⟩
     have HE:=z8 (HV.out g lb w2 ha)
     have HB2:=z8 hb
     clear ha hb HV HD
     go_wp2_with (go_at_call 213; with_reducible refine HE.out.mono ?_; rintro e w3 ⟨rfl,q,rfl⟩)
     go_roundg (n - (k+1))
     case measure=>omega
     case rel=>exact ⟨k+1,by omega,by omega,by go_num,HW2.out _ _ HB2.out,HX⟩
    | false =>
     rw [hq] at HV
     have hrf:r=false:=HF.out hq
     subst hrf
     clear hq HF HA2 HW2
     go_wp2_with fail
     with_reducible refine HD.out.mono ?_
     rintro e w2 ⟨g,lb,rfl,ha,hb⟩
     have HE:=z8 (HV.out g lb w2 ha)
     have HB2:=z8 hb
     clear ha hb HV HD
     go_wp2_with (go_at_call 213; with_reducible refine HE.out.mono ?_; rintro e w3 ⟨rfl,q,rfl⟩)
     go_ret
     exact ⟨rfl,HBW2.out _ _ HB2.out⟩
  ·
   have hltz:¬ (k:Int)<(n:Int):=by omega
   obtain rfl:k=n:=by omega
   have hra:r=decide ((k:Int) ≥ 2):=by
    rw [HR.out]
    have:ps.all (fun x=>FS x.data.toList)=true:=by
     rw [List.all_eq_true]
     intro x hx
     obtain ⟨j,hj,rfl⟩:=List.getElem_of_mem hx
     exact A.out j hj (by have:=HL.out; omega)
    rw [this,Bool.true_and]
    by_cases h2:2≤k
    ·
     rw [decide_eq_true h2,decide_eq_true (by omega)]
    ·
     rw [decide_eq_false h2,decide_eq_false (by omega)]
   have HBW:=z8 (z7 HB1.out HW.out)
   have HRA:=z8 hra
   clear hra HW
   go_wp2
   go_ret
   exact ⟨by rw [HRA.out]; rfl,HBW.out⟩

def fp (l:List UInt8):List UInt8×List UInt8×Bool:=Lib.cut (zF l) [64]
def yV (l:List UInt8):Bool:=decide (l.length≤20) && (fp l).2.2 && zm (fp l).1 && FF xl (fp l).2.1
def up (l:List UInt8):ByteArray:=if yV l then ⟨(zF l).toArray⟩ else ⟨#[]⟩
def Mails5 (b:Bool) (t:ByteArray) (w:World) (e:Ending) (w':World):Prop:=e=.returned (.tuple #[.string t,.int .i64 (zA b 11)])∧Below w.heap.size w w'

theorem vh (l:List UInt8):(zF l).length=l.length:=by simp [zF]

theorem QR (l sep:List UInt8):(Lib.cut l sep).1.length≤l.length∧(Lib.cut l sep).2.1.length≤l.length:=by
 unfold Lib.cut
 split <;> simp
 exact Nat.min_le_right _ _

set_option maxRecDepth 100000 in
theorem X3 (s:ByteArray) (w:World) (hs:s.size≤9223372036854775807) (hm:vm w) :
  Calls Tryz.prog 220 #[.string s] w (Mails5 (yV s.data.toList) (up s.data.toList) w):=by
 by_cases h20:s.size≤20
 ·
  have hm1:yV s.data.toList=((fp s.data.toList).2.2 && zm (fp s.data.toList).1 && FF xl (fp s.data.toList).2.1):=by
   unfold yV
   rw [zh,decide_eq_true h20,Bool.true_and]
  have hfl:(zF s.data.toList).length=s.size:=by rw [vh,zh]
  have hl:=QR (zF s.data.toList) [64]
  rw [hfl] at hl
  have HF:=z8 (Fw s w hs)
  have HCT:Hid (∀ w,vm w→Calls Tryz.prog 253 #[.string ⟨(zF s.data.toList).toArray⟩,.string ⟨#[64]⟩] w fun e w'=>e=.returned (.tuple #[.string ⟨(fp s.data.toList).1.toArray⟩,.string ⟨(fp s.data.toList).2.1.toArray⟩,.bool (fp s.data.toList).2.2])∧∃ n,w'=w.drewN n):=fun w h=>by
   obtain ⟨m,hm⟩:=h.2
   have:=Tryz.strings_Cut ⟨(zF s.data.toList).toArray⟩ ⟨#[64]⟩ m w (by show (zF s.data.toList).toArray.size<_; rw [List.size_toArray,hfl]; omega) hm
   exact this
  have HNM:Hid (∀ w,Calls Tryz.prog 128 #[.string ⟨(fp s.data.toList).1.toArray⟩] w (yt (zm (fp s.data.toList).1) w)):=fun w =>
   X1 ⟨(fp s.data.toList).1.toArray⟩ w (by show (fp s.data.toList).1.toArray.size≤_; rw [List.size_toArray]; exact Nat.le_trans hl.1 (by omega))
  have HDM:Hid (∀ w,vm w→Calls Tryz.prog 254 #[.string ⟨(fp s.data.toList).2.1.toArray⟩] w (yt (FF xl (fp s.data.toList).2.1) w)):=fun w h =>
   UI ⟨(fp s.data.toList).2.1.toArray⟩ w (by show (fp s.data.toList).2.1.toArray.size≤_; rw [List.size_toArray]; exact Nat.le_trans hl.2 (by omega)) h
  unfold up
  rw [hm1]
  have HM:=z8 hm
  clear hm hl hfl hm1
  generalize (⟨(zF s.data.toList).toArray⟩:ByteArray)=f at *
  generalize fp s.data.toList=c at *
  obtain ⟨c1,c2,b⟩:=c
  simp only at HCT HNM HDM ⊢
  generalize (⟨c1.toArray⟩:ByteArray)=t1 at *
  generalize (⟨c2.toArray⟩:ByteArray)=t2 at *
  generalize zm c1=bn at *
  generalize FF xl c2=bd at *
  generalize hn:s.size=n at *
  have z:¬ (n:Int) > 20:=by omega
  have z':¬ 20<n:=by omega
  obtain ⟨r,hr⟩:∃ r:Bool,r=(b && bn && bd):=⟨_,rfl⟩
  obtain ⟨rt,hrt⟩:∃ rt:ByteArray,rt=if (b && bn && bd)=true then f else ⟨#[]⟩:=⟨_,rfl⟩
  rw [← hrt,← hr]
  have HR:=z8 hr
  have HRT:=z8 hrt
  clear hr hrt
  go_enter Tryz.func220,Tryz.ntmps220
  go_wp2_with fail
  with_reducible refine HF.out.mono ?_
  rintro e w1 ⟨rfl,hb⟩
  have HB1:=z8 hb
  have HC1:=z8 (HCT.out w1 (HM.out.later hb))
  have HM1:=z8 (HM.out.later hb)
  clear hb HF HCT
  go_wp2_with fail
  with_reducible refine HC1.out.mono ?_
  rintro e w2 ⟨rfl,q,rfl⟩
  have HB2:=z8 (zn HB1.out q)
  have HM2:=z8 (HM1.out.later (zn (Below.refl w1.heap.size w1) q))
  generalize w1.drewN q=w2 at *
  clear HC1 HB1 HM1
  cases b with
  | false =>
   have hr:r=false:=HR.out
   have hrt:rt=⟨#[]⟩:=HRT.out
   subst hr; subst hrt
   go_wp2
   go_ret2; exact ⟨rfl,HB2.out⟩
  | true =>
   have HN2:=z8 (HNM.out w2)
   cases bn with
   | false =>
    have hr:r=false:=HR.out
    have hrt:rt=⟨#[]⟩:=HRT.out
    subst hr; subst hrt
    go_wp2_with fail
    with_reducible refine HN2.out.mono ?_
    rintro e w3 ⟨rfl,hb⟩
    have HB3:=z8 (z7 HB2.out hb)
    clear hb
    go_wp2
    go_ret2; exact ⟨rfl,HB3.out⟩
   | true =>
    go_wp2_with fail
    with_reducible refine HN2.out.mono ?_
    rintro e w3 ⟨rfl,hb⟩
    have HB3:=z8 (z7 HB2.out hb)
    have HD3:=z8 (HDM.out w3 (HM2.out.later hb))
    clear hb HN2 HDM HNM
    go_wp2_with fail
    with_reducible refine HD3.out.mono ?_
    rintro e w4 ⟨rfl,hb⟩
    have HB4:=z8 (z7 HB3.out hb)
    clear hb
    cases bd with
    | false =>
     have hr:r=false:=HR.out
     have hrt:rt=⟨#[]⟩:=HRT.out
     subst hr; subst hrt
     go_wp2
     go_ret2; exact ⟨rfl,HB4.out⟩
    | true =>
     have hr:r=true:=HR.out
     have hrt:rt=f:=HRT.out
     subst hr; subst hrt
     go_wp2
     go_ret2; exact ⟨rfl,HB4.out⟩
 ·
  have hm1:yV s.data.toList=false:=by
   unfold yV
   rw [zh,decide_eq_false h20]; rfl
  have hm2:up s.data.toList=⟨#[]⟩:=by unfold up; rw [hm1]; rfl
  rw [hm1,hm2]
  clear hm1 hm2 hm
  generalize hn:s.size=n at *
  have z:(n:Int) > 20:=by omega
  have z':20<n:=by omega
  go_enter Tryz.func220,Tryz.ntmps220
  go_wp2
  go_ret2; exact ⟨rfl,Below.refl _ _⟩

set_option maxRecDepth 100000 in
theorem vz (a b:ByteArray) (w:World) :
  Calls Tryz.prog 138 #[.string a,.string b] w fun e w'=>e=.returned (.int .i64 (Lib.compareBytes a.data.toList b.data.toList))∧w'=w:=by
 have HC:=z8 (Tryz.strings_Compare a b w)
 generalize Lib.compareBytes a.data.toList b.data.toList=r at *
 go_enter Tryz.func138,Tryz.ntmps138
 go_wp2_with fail
 with_reducible refine HC.out.mono ?_
 rintro e w1 ⟨rfl,rfl⟩
 go_wp2
 go_ret
 exact ⟨rfl,rfl⟩

set_option maxRecDepth 100000 in
theorem ZM (c:UInt8) (s:ByteArray) (w:World) (hs:s.size≤1000) :
  Calls Tryz.prog 219 #[.int .u8 c.toNat,.string s] w fun e w'=>e=.returned (.bool (s.data.toList.contains c))∧w'=w:=by
 obtain ⟨r,hr⟩:∃ r,r=s.data.toList.contains c:=⟨_,rfl⟩
 rw [← hr]
 have HR:=z8 hr
 clear hr
 generalize hn:s.size=n at *
 have HN:=z8 hn
 have HC:Hid (∀ x:UInt8,((x.toNat:Int)=(c.toNat:Int))↔x=c):=fun x=>⟨fun h=>UInt8.toNat_inj.1 (by omega),fun h=>by rw [h]⟩
 clear hn
 generalize hcn:(c.toNat:Int)=cn at *
 clear hcn
 go_enter Tryz.func219,Tryz.ntmps219
 go_wp2
 go_loopg [5] n (fun gg s5 wr=>∃ k:Nat,k≤n∧n - k≤gg∧s5=.int .i64 k∧wr=w∧Hid (∀ j (h:j<s.size),j<k→¬ s[j]=c))
 case atStart=>exact ⟨0,Nat.zero_le _,by omega,rfl,rfl,fun j _ hj=>absurd hj (Nat.not_lt_zero _)⟩
 case round =>
  obtain ⟨k,hk,hg,rfl,rfl,A⟩:=hrel
  have hsz:=HN.out
  by_cases hlt:k<n
  ·
   have hltz:(k:Int)<(n:Int):=by omega
   have hks:k<s.size:=by omega
   have hx:∀ (h:k<s.size),((s[k]'h).toNat:Int)=bt5 s k:=fun h=>by unfold bt5; rw [dif_pos h]
   have he:=hx hks ▸ HC.out s[k]
   by_cases hq:s[k]=c
   ·
    have hq':bt5 s k=cn:=he.2 hq
    have HQ:=z8 hq
    clear hq he
    go_wp2
    go_ret
    refine ⟨?_,rfl⟩
    have:s.data.toList.contains c=true:=by
     rw [List.contains_iff_mem,← HQ.out]
     exact Array.mem_toList_iff.2 (Array.getElem_mem (xs:=s.data) (i:=k) hks)
    rw [HR.out,this]; rfl
   ·
    have hq':¬ bt5 s k=cn:=fun h=>hq (he.1 h)
    have HQ:=z8 hq
    clear hq he
    go_wp2
    go_roundg (n - (k+1))
    case measure=>omega
    case rel =>
     refine ⟨k+1,by omega,by omega,by go_num,rfl,(show Hid _ from fun j h hj=>?_)⟩
     by_cases e:j=k
     ·
      subst e
      exact HQ.out
     ·
      exact A.out j h (by omega)
  ·
   have hltz:¬ (k:Int)<(n:Int):=by omega
   obtain rfl:k=n:=by omega
   have hrf:r=false:=by
    rw [HR.out,Bool.eq_false_iff]
    intro h
    rw [List.contains_iff_mem] at h
    obtain ⟨j,hj,he⟩:=Array.getElem_of_mem (Array.mem_toList_iff.1 h)
    exact A.out j hj (by have:j<s.size:=hj; omega) he
   subst hrf
   go_wp2
   go_ret
   exact ⟨rfl,rfl⟩

set_option maxRecDepth 100000 in
theorem U0 (s t:ByteArray) (w:World) (hs:s.size≤1000) (ht:t.size≤1000) :
  Calls Tryz.prog 217 #[.string s,.string t] w fun e w'=>e=.returned (.bool (s.data.toList.all (fun x=>t.data.toList.contains x)))∧w'=w:=by
 obtain ⟨r,hr⟩:∃ r,r=s.data.toList.all (fun x=>t.data.toList.contains x):=⟨_,rfl⟩
 rw [← hr]
 have HR:=z8 hr
 have HI:=z8 (fun c=>ZM c t w ht)
 clear hr
 generalize hn:s.size=n at *
 have HN:=z8 hn
 clear hn
 go_enter Tryz.func217,Tryz.ntmps217
 go_wp2
 go_loopg [5] n (fun gg s5 wr=>∃ k:Nat,k≤n∧n - k≤gg∧s5=.int .i64 k∧wr=w∧Hid (∀ j (h:j<s.size),j<k→t.data.toList.contains s[j]=true))
 case atStart=>exact ⟨0,Nat.zero_le _,by omega,rfl,rfl,fun j _ hj=>absurd hj (Nat.not_lt_zero _)⟩
 case round =>
  obtain ⟨k,hk,hg,rfl,rfl,A⟩:=hrel
  have hsz:=HN.out
  by_cases hlt:k<n
  ·
   have hltz:(k:Int)<(n:Int):=by omega
   have hks:k<s.size:=by omega
   have hx:∀ (h:k<s.size),((s[k]'h).toNat:Int)=bt5 s k:=fun h=>by unfold bt5; rw [dif_pos h]
   have hcall:=hx hks ▸ HI.out s[k]
   cases hq:t.data.toList.contains s[k] with
   | false =>
    rw [hq] at hcall
    have HQ:=z8 hq
    have HC:=z8 hcall
    clear hq hcall
    go_wp2_with fail
    with_reducible refine HC.out.mono ?_
    rintro e w1 ⟨rfl,rfl⟩
    go_wp2
    go_ret
    refine ⟨?_,rfl⟩
    have:(s.data.toList.all fun x=>t.data.toList.contains x)=false:=by
     rw [List.all_eq_false]
     exact ⟨s[k],Array.mem_toList_iff.2 (Array.getElem_mem (xs:=s.data) (i:=k) hks),by rw [HQ.out]; simp⟩
    rw [HR.out,this]; rfl
   | true =>
    rw [hq] at hcall
    have HQ:=z8 hq
    have HC:=z8 hcall
    clear hq hcall
    go_wp2_with (go_at_call 219; with_reducible refine HC.out.mono ?_; rintro e w1 ⟨rfl,rfl⟩)
    go_roundg (n - (k+1))
    case measure=>omega
    case rel =>
     refine ⟨k+1,by omega,by omega,by go_num,rfl,(show Hid _ from fun j h hj=>?_)⟩
     by_cases e:j=k
     ·
      subst e
      exact HQ.out
     ·
      exact A.out j h (by omega)
  ·
   have hltz:¬ (k:Int)<(n:Int):=by omega
   obtain rfl:k=n:=by omega
   have hrf:r=true:=by
    rw [HR.out,List.all_eq_true]
    intro x hx
    obtain ⟨j,hj,rfl⟩:=Array.getElem_of_mem (Array.mem_toList_iff.1 hx)
    exact A.out j hj (by have:j<s.size:=hj; omega)
   subst hrf
   go_wp2
   go_ret
   exact ⟨rfl,rfl⟩

theorem jT {p q:UInt8→Bool} (h:∀ n,n<256→p (UInt8.ofNat n)=q (UInt8.ofNat n)) (x:UInt8):p x=q x:=by
 have:=h x.toNat x.toNat_lt
 rwa [UInt8.ofNat_toNat] at this
theorem let5_has (x:UInt8):(ByteArray.mk #[97,98,99,100,101,102,103,104,105,106,107,108,109,110,111,112,113,114,115,116,117,118,119,120,121,122]).data.toList.contains x=vM x:=jT (p:=fun x=>(ByteArray.mk #[97,98,99,100,101,102,103,104,105,106,107,108,109,110,111,112,113,114,115,116,117,118,119,120,121,122]).data.toList.contains x) (by decide +kernel) x
theorem both5_has (x:UInt8):(ByteArray.mk #[97,98,99,100,101,102,103,104,105,106,107,108,109,110,111,112,113,114,115,116,117,118,119,120,121,122,48,49,50,51,52,53,54,55,56,57]).data.toList.contains x=xl x:=jT (p:=fun x=>(ByteArray.mk #[97,98,99,100,101,102,103,104,105,106,107,108,109,110,111,112,113,114,115,116,117,118,119,120,121,122,48,49,50,51,52,53,54,55,56,57]).data.toList.contains x) (by decide +kernel) x
theorem sign5_has (x:UInt8):(ByteArray.mk #[97,98,99,100,101,102,103,104,105,106,107,108,109,110,111,112,113,114,115,116,117,118,119,120,121,122,48,49,50,51,52,53,54,55,56,57,45,46]).data.toList.contains x=fe x:=jT (p:=fun x=>(ByteArray.mk #[97,98,99,100,101,102,103,104,105,106,107,108,109,110,111,112,113,114,115,116,117,118,119,120,121,122,48,49,50,51,52,53,54,55,56,57,45,46]).data.toList.contains x) (by decide +kernel) x
theorem hexa5_has (x:UInt8):(ByteArray.mk #[48,49,50,51,52,53,54,55,56,57,97,98,99,100,101,102]).data.toList.contains x=fU x:=jT (p:=fun x=>(ByteArray.mk #[48,49,50,51,52,53,54,55,56,57,97,98,99,100,101,102]).data.toList.contains x) (by decide +kernel) x

theorem VY (s:ByteArray) (w:World) (hs:s.size≤1000) :
  Calls Tryz.prog 217 #[.string s,.string ⟨#[97,98,99,100,101,102,103,104,105,106,107,108,109,110,111,112,113,114,115,116,117,118,119,120,121,122,48,49,50,51,52,53,54,55,56,57,45,46]⟩] w fun e w'=>e=.returned (.bool (s.data.toList.all fe))∧w'=w:=by
 have h:=U0 s ⟨#[97,98,99,100,101,102,103,104,105,106,107,108,109,110,111,112,113,114,115,116,117,118,119,120,121,122,48,49,50,51,52,53,54,55,56,57,45,46]⟩ w hs (by decide)
 rwa [funext sign5_has] at h
theorem VZ (s:ByteArray) (w:World) (hs:s.size≤1000) :
  Calls Tryz.prog 217 #[.string s,.string ⟨#[48,49,50,51,52,53,54,55,56,57,97,98,99,100,101,102]⟩] w fun e w'=>e=.returned (.bool (s.data.toList.all fU))∧w'=w:=by
 have h:=U0 s ⟨#[48,49,50,51,52,53,54,55,56,57,97,98,99,100,101,102]⟩ w hs (by decide)
 rwa [funext hexa5_has] at h
theorem Qx (c:UInt8) (w:World) :
  Calls Tryz.prog 219 #[.int .u8 c.toNat,.string ⟨#[97,98,99,100,101,102,103,104,105,106,107,108,109,110,111,112,113,114,115,116,117,118,119,120,121,122]⟩] w fun e w'=>e=.returned (.bool (vM c))∧w'=w:=by
 have h:=ZM c ⟨#[97,98,99,100,101,102,103,104,105,106,107,108,109,110,111,112,113,114,115,116,117,118,119,120,121,122]⟩ w (by decide)
 rwa [let5_has] at h
theorem fJ (c:UInt8) (w:World) :
  Calls Tryz.prog 219 #[.int .u8 c.toNat,.string ⟨#[97,98,99,100,101,102,103,104,105,106,107,108,109,110,111,112,113,114,115,116,117,118,119,120,121,122,48,49,50,51,52,53,54,55,56,57]⟩] w fun e w'=>e=.returned (.bool (xl c))∧w'=w:=by
 have h:=ZM c ⟨#[97,98,99,100,101,102,103,104,105,106,107,108,109,110,111,112,113,114,115,116,117,118,119,120,121,122,48,49,50,51,52,53,54,55,56,57]⟩ w (by decide)
 rwa [both5_has] at h

def fQ (b:Bool) (w:World) (e:Ending) (w':World):Prop:=e=.returned (.bool b)∧w'=w

set_option maxRecDepth 100000 in
theorem Qd (s:ByteArray) (w:World) (hs:s.size≤1000) :
  Calls Tryz.prog 144 #[.string s] w (fQ (xo s.data.toList) w):=by
 have HO:=z8 (VZ s w hs)
 have he:xo s.data.toList=(decide (1≤s.size) && decide (s.size≤12) && s.data.toList.all fU):=by unfold xo; rw [zh]
 rw [he]
 clear he
 generalize s.data.toList.all fU=r at *
 generalize hn:s.size=n at *
 by_cases h1:1≤n
 ·
  have z1:(n:Int) ≥ 1:=by omega
  by_cases h12:n≤12
  ·
   rw [decide_eq_true h1,decide_eq_true h12,Bool.true_and,Bool.true_and]
   have z:(n:Int)≤12:=by omega
   go_enter Tryz.func144,Tryz.ntmps144
   go_wp2_with fail
   with_reducible refine HO.out.mono ?_
   rintro e w1 ⟨rfl,rfl⟩
   go_wp2
   go_ret
   exact ⟨rfl,rfl⟩
  ·
   rw [decide_eq_false h12,Bool.and_false,Bool.false_and]
   have z:¬ (n:Int)≤12:=by omega
   go_enter Tryz.func144,Tryz.ntmps144
   go_wp2
   go_ret
   exact ⟨rfl,rfl⟩
 ·
  rw [decide_eq_false h1,Bool.false_and,Bool.false_and]
  have z:¬ (n:Int) ≥ 1:=by omega
  go_enter Tryz.func144,Tryz.ntmps144
  go_wp2
  go_ret
  exact ⟨rfl,rfl⟩

set_option maxRecDepth 100000 in
theorem vI (s:ByteArray) (w:World) (hs:s.size≤1000) :
  Calls Tryz.prog 186 #[.string s] w (fQ (zm s.data.toList) w):=by
 have HO:=z8 (VY s w hs)
 by_cases h1:1≤s.size
 ·
  have z1:(s.size:Int) ≥ 1:=by omega
  have hpos:0<s.size:=by omega
  have he:zm s.data.toList=(decide (s.size≤12) && s.data.toList.all fe && vM s[0] && xl s[s.size - 1]):=by
   unfold zm Zx
   rw [head_at s hpos,last_at s hpos,zh,decide_eq_true h1,Bool.true_and]
  rw [he]
  clear he
  have hb0:∀ (h:0<s.size),((s[0]'h).toNat:Int)=bt5 s 0:=fun h=>jQ s 0 h
  have hb1:∀ (h:s.size - 1<s.size),((s[s.size - 1]'h).toNat:Int)=bt5 s (s.size - 1):=fun h=>jQ s _ h
  have HI0:=z8 (hb0 hpos ▸ Qx s[0] w)
  have HI1:=z8 (hb1 (by omega) ▸ fJ s[s.size - 1] w)
  generalize s.data.toList.all fe=r at *
  generalize vM s[0]=b0 at *
  generalize xl s[s.size - 1]=b1 at *
  generalize bt5 s 0=n0 at *
  generalize hn1:bt5 s (s.size - 1)=n1 at *
  clear hn1
  have zz:(s.size:Int) - 1=((s.size - 1:Nat):Int):=by omega
  by_cases h12:s.size≤12
  ·
   rw [decide_eq_true h12,Bool.true_and]
   have z:(s.size:Int)≤12:=by omega
   cases r with
   | false =>
    show Calls _ _ _ _ (fQ false w)
    go_enter Tryz.func186,Tryz.ntmps186
    go_wp2_with fail
    with_reducible refine HO.out.mono ?_
    rintro e w1 ⟨rfl,rfl⟩
    go_wp2
    go_ret
    exact ⟨rfl,rfl⟩
   | true =>
    cases b0 with
    | false =>
     show Calls _ _ _ _ (fQ false w)
     go_enter Tryz.func186,Tryz.ntmps186
     go_wp2_with fail
     with_reducible refine HO.out.mono ?_
     rintro e w1 ⟨rfl,rfl⟩
     go_wp2_with fail
     with_reducible refine HI0.out.mono ?_
     rintro e w1 ⟨rfl,rfl⟩
     go_wp2
     go_ret
     exact ⟨rfl,rfl⟩
    | true =>
     show Calls _ _ _ _ (fQ b1 w)
     go_enter Tryz.func186,Tryz.ntmps186
     go_wp2_with fail
     with_reducible refine HO.out.mono ?_
     rintro e w1 ⟨rfl,rfl⟩
     go_wp2_with fail
     with_reducible refine HI0.out.mono ?_
     rintro e w1 ⟨rfl,rfl⟩
     go_wp2_with fail
     with_reducible refine HI1.out.mono ?_
     rintro e w1 ⟨rfl,rfl⟩
     go_wp2
     go_ret
     exact ⟨rfl,rfl⟩
  ·
   rw [decide_eq_false h12,Bool.false_and,Bool.false_and,Bool.false_and]
   have z:¬ (s.size:Int)≤12:=by omega
   go_enter Tryz.func186,Tryz.ntmps186
   go_wp2
   go_ret
   exact ⟨rfl,rfl⟩
 ·
  have he:zm s.data.toList=false:=by
   unfold zm
   rw [zh,decide_eq_false h1]; rfl
  rw [he]
  have z:¬ (s.size:Int) ≥ 1:=by omega
  go_enter Tryz.func186,Tryz.ntmps186
  go_wp2
  go_ret
  exact ⟨rfl,rfl⟩

def Q0 (x:UInt8) (j:Nat):ByteArray:=if 65≤x.toNat∧x.toNat<65+j then ⟨#[x+32]⟩ else ⟨#[x]⟩
theorem cur5_zero (x:UInt8):Q0 x 0=⟨#[x]⟩:=by unfold Q0; rw [if_neg (by omega)]
theorem cur5_end (x:UInt8):Q0 x 26=⟨#[qK x]⟩:=by
 unfold Q0 qK inR
 by_cases h:65≤x.toNat∧x.toNat<65+26
 ·
  have:(decide (65≤x.toNat) && decide (x.toNat≤90))=true:=by simp; omega
  rw [if_pos h,if_pos this]
 ·
  have:¬ (decide (65≤x.toNat) && decide (x.toNat≤90))=true:=by simp; omega
  rw [if_neg h,if_neg this]
theorem cur5_hit (x:UInt8) (j:Nat) (h:x.toNat=65+j):Q0 x (j+1)=⟨#[x+32]⟩:=by unfold Q0; rw [if_pos (by omega)]
theorem cur5_miss (x:UInt8) (j:Nat) (h:¬ x.toNat=65+j):Q0 x (j+1)=Q0 x j:=by
 unfold Q0
 by_cases h1:65≤x.toNat∧x.toNat<65+j
 ·
  rw [if_pos h1,if_pos (by omega)]
 ·
  rw [if_neg h1,if_neg (by omega)]
theorem cur5_size (x:UInt8) (j:Nat):(Q0 x j).size=1:=by unfold Q0; split <;> rfl

def Xc:ByteArray:=⟨#[65,66,67,68,69,70,71,72,73,74,75,76,77,78,79,80,81,82,83,84,85,86,87,88,89,90]⟩
def small5:ByteArray:=⟨#[97,98,99,100,101,102,103,104,105,106,107,108,109,110,111,112,113,114,115,116,117,118,119,120,121,122]⟩
theorem QC:Xc.size=26:=rfl
theorem great5_at:∀ j,j<26→∀ (h:j<Xc.size),((Xc[j]'h).toNat:Int)=65+(j:Int):=by
 have h:∀ j,j<26→∀ (h:j<Xc.size),(Xc[j]'h).toNat=65+j:=by decide +kernel
 intro j hj h2
 rw [h j hj h2]; omega
theorem small5_at (x:UInt8) (j:Nat) (hj:j<26) (h:x.toNat=65+j):small5.extract j (j+1)=⟨#[x+32]⟩:=by
 have h1:∀ j,j<26→small5.extract j (j+1)=⟨#[UInt8.ofNat (65+j)+32]⟩:=by decide +kernel
 have hx:x=UInt8.ofNat (65+j):=by rw [← h,UInt8.ofNat_toNat]
 rw [h1 j hj,hx]
theorem one_at (s:ByteArray) (i:Nat) (h:i<s.size):s.extract i (i+1)=⟨#[s[i]]⟩:=by
 apply ByteArray.ext
 apply Array.ext'
 rw [ByteArray.data_extract]
 have:i<s.data.size:=h
 apply List.ext_getElem
 ·
  simp; omega
 ·
  intro n h1 h2
  simp at h2
  subst h2
  simp
  rfl

theorem cut_at (s:ByteArray) (i:Nat) (y:ByteArray) (h:i<s.size) (e:s.extract i (i+1)=y) (W:World) :
  (Instr.slice 9 (.string s) (some (.int .i64 i)) (some (.int .i64 ((i:Int)+1))) none).run Tryz.prog W=.ok (.string y) W:=by
 have h1:((i:Int)+1)=((i+1:Nat):Int):=by omega
 rw [h1,run_slice_string W 9 s .i64 .i64 (i:Int) ((i+1:Nat):Int) Tryz.underlying9 (by omega) (by omega) (by omega)]
 rw [← e]
 simp

set_option maxRecDepth 100000 in
theorem Qf (s:ByteArray) (w:World) (hs:s.size≤1000) :
  Calls Tryz.prog 218 #[.string s] w fun e w'=>e=.returned (.string ⟨(zF s.data.toList).toArray⟩)∧∃ q,w'=w.drewN q:=by
 obtain ⟨r,hr⟩:∃ r,r=(⟨(zF s.data.toList).toArray⟩:ByteArray):=⟨_,rfl⟩
 rw [← hr]
 have HR:=z8 hr
 clear hr
 generalize hn:s.size=n at *
 have HN:=z8 hn
 clear hn
 have hgs:=QC
 have HGA:=z8 great5_at
 go_enter Tryz.func218,Tryz.ntmps218
 go_wp2
 generalize hgr:(⟨#[65,66,67,68,69,70,71,72,73,74,75,76,77,78,79,80,81,82,83,84,85,86,87,88,89,90]⟩:ByteArray)=gr
 have hgr2:Xc=gr:=hgr
 rw [hgr2] at hgs HGA
 clear hgr hgr2
 go_loopg [4,5,6,7] n (fun gg s4 s5 _ _ wr=>∃ i q:Nat,i≤n∧n - i≤gg∧s4=.string ⟨(zF (s.data.toList.take i)).toArray⟩∧s5=.int .i64 i∧wr=w.drewN q)
 case atStart=>exact ⟨0,0,Nat.zero_le _,by omega,rfl,rfl,rfl⟩
 case round =>
  obtain ⟨i,q,hi,hg,rfl,rfl,rfl⟩:=hrel
  have hsz:=HN.out
  by_cases hlt:i<n
  ·
   have hltz:(i:Int)<(n:Int):=by omega
   have his:i<s.size:=by omega
   obtain ⟨o,ho⟩:∃ o,o=(⟨(zF (s.data.toList.take i)).toArray⟩:ByteArray):=⟨_,rfl⟩
   rw [← ho]
   have HO:=z8 ho
   have hos:o.size=i:=by
    rw [ho]
    show (zF (s.data.toList.take i)).toArray.size=i
    rw [List.size_toArray,zF,List.length_map,List.length_take,zh]; omega
   clear ho
   have hx:∀ (h:i<s.size),((s[i]'h).toNat:Int)=bt5 s i:=fun h=>jQ s i h
   have hex:=one_at s i his
   rw [← cur5_zero] at hex
   obtain ⟨x,hxx⟩:∃ x,x=s[i]:=⟨_,rfl⟩
   rw [← hxx] at hex
   have hxn:bt5 s i=(x.toNat:Int):=by rw [hxx]; exact (hx his).symm
   have HX:=z8 hxx
   rw [hxn] at hx
   clear hxx hxn
   have hsl:=cut_at s i _ his hex
   go_wp2
   go_loopg [6,7,19] 26 (fun gg s6 _ s19 wr=>∃ j q:Nat,j≤26∧26 - j≤gg∧s6=.string (Q0 x j)∧s19=.int .i64 j∧wr=w.drewN q)
   case atStart=>exact ⟨0,q,Nat.zero_le _,by omega,rfl,rfl,rfl⟩
   case round =>
    obtain ⟨j,q,hj,hg2,rfl,rfl,rfl⟩:=hrel
    by_cases hlj:j<26
    ·
     have hljz:(j:Int)<26:=by omega
     have hjs:j<gr.size:=by omega
     have hgx:=HGA.out j hlj
     by_cases hq:x.toNat=65+j
     ·
      have hq':(x.toNat:Int)=65+(j:Int):=by omega
      have hsm:=cut_at small5 j _ hlj (small5_at x j hlj hq)
      rw [← cur5_hit x j hq] at hsm
      have hsm2:∀ W,(Instr.slice 9 (.string ⟨#[97,98,99,100,101,102,103,104,105,106,107,108,109,110,111,112,113,114,115,116,117,118,119,120,121,122]⟩) (some (.int .i64 j)) (some (.int .i64 ((j:Int)+1))) none).run Tryz.prog W=.ok (.string (Q0 x (j+1))) W:=hsm
      clear hsm
      go_wp2_with fail
      go_quiet (fail)
      go_wp2
      go_roundg (26 - (j+1))
      case measure=>omega
      case rel=>exact ⟨j+1,_,by omega,by omega,rfl,by go_num,rfl⟩
     ·
      have hq':¬ (x.toNat:Int)=65+(j:Int):=by omega
      have hcu:=cur5_miss x j hq
      generalize Q0 x j=c at *
      go_wp2_with fail
      go_quiet (fail)
      go_wp2
      go_roundg (26 - (j+1))
      case measure=>omega
      case rel=>exact ⟨j+1,_,by omega,by omega,by rw [hcu],by go_num,rfl⟩
    ·
     have hljz:¬ (j:Int)<26:=by omega
     obtain rfl:j=26:=by omega
     obtain ⟨o2,ho2⟩:∃ o2,o2=(⟨(zF (s.data.toList.take (i+1))).toArray⟩:ByteArray):=⟨_,rfl⟩
     have hcs:=cur5_size x 26
     have hadd:∀ W,(Op.stringOp .add o (Q0 x 26)).run Tryz.prog W=.ok (.string o2) W:=fun W=>by
      rw [run_string_add_sum W _ _ (by omega)]
      congr 2
      rw [ho2,HO.out,cur5_end]
      apply ByteArray.ext
      have hls:i<s.data.toList.length:=by rw [zh]; exact his
      rw [List.take_succ_eq_append_getElem hls]
      have hxe:s.data.toList[i]=x:=by rw [HX.out]; rfl
      simp [zF,hxe]
     have HO2:=z8 ho2
     clear ho2
     generalize Q0 x 26=c at *
     go_wp2
     go_roundg (n - (i+1))
     case measure=>omega
     case rel=>exact ⟨i+1,_,by omega,by omega,by rw [HO2.out],by go_num,rfl⟩
  ·
   have hltz:¬ (i:Int)<(n:Int):=by omega
   obtain rfl:i=n:=by omega
   have he:(⟨(zF (s.data.toList.take i)).toArray⟩:ByteArray)=r:=by
    rw [HR.out,List.take_of_length_le (by rw [zh]; omega)]
   rw [he]
   go_wp2
   go_ret
   exact ⟨rfl,q,rfl⟩

theorem idx_hit (c:UInt8):∀ (l:List UInt8) (k:Nat) (hk:k<l.length),(∀ j (h:j<l.length),j<k→¬ l[j]=c)→l[k]=c→Lib.indexByte l c=k
 | [],k,hk,_,_=>absurd hk (by simp)
 | x::l,0,_,_,h=>by
  have:x=c:=h
  unfold Lib.indexByte
  rw [if_pos (beq_iff_eq.2 this)]; rfl
 | x::l,k+1,hk,ha,h=>by
  have h0:¬ x=c:=ha 0 (by simp) (by omega)
  have ih:=idx_hit c l k (by simpa using hk) (fun j hj hjk=>ha (j+1) (by simpa using hj) (by omega)) (by simpa using h)
  unfold Lib.indexByte
  rw [if_neg (by simpa using h0),ih]
  have:((k:Int) == -1)=false:=by simp
  rw [this]
  simp
theorem Jr (c:UInt8):∀ (l:List UInt8),(∀ j (h:j<l.length),¬ l[j]=c)→Lib.indexByte l c=-1
 | [],_=>rfl
 | x::l,ha=>by
  have h0:¬ x=c:=ha 0 (by simp)
  have ih:=Jr c l (fun j hj=>ha (j+1) (by simpa using hj))
  unfold Lib.indexByte
  rw [if_neg (by simpa using h0),ih]
  rfl

theorem cut5_hit (l:List UInt8) (k:Nat) (hk:k<(zF l).length) (ha:∀ j (h:j<(zF l).length),j<k→¬ (zF l)[j]=64) (h:(zF l)[k]=64) :
  fp l=((zF l).take k,(zF l).drop (k+1),true):=by
 have hi:=(Lib.index_one (zF l) 64).trans (idx_hit 64 _ k hk ha h)
 unfold fp Lib.cut
 rw [hi,if_pos (by omega)]
 simp
theorem cut5_none (l:List UInt8) (ha:∀ j (h:j<(zF l).length),¬ (zF l)[j]=64):(fp l).2.2=false:=by
 have hi:=(Lib.index_one (zF l) 64).trans (Jr 64 _ ha)
 unfold fp Lib.cut
 rw [hi,if_neg (by omega)]

theorem cut_to (s:ByteArray) (k:Nat) (h:k≤s.size) (W:World) :
  (Instr.slice 9 (.string s) none (some (.int .i64 k)) none).run Tryz.prog W=.ok (.string (s.extract 0 k)) W:=by
 rw [run_slice_string_to_if W 9 s .i64 (k:Int) Tryz.underlying9]
 simp [h]

def RMails5 (b:Bool) (t:ByteArray) (w:World) (e:Ending) (w':World):Prop:=e=.returned (.tuple #[.string t,.bool b])∧∃ q,w'=w.drewN q

set_option maxRecDepth 100000 in
theorem Qb (s:ByteArray) (w:World) (hs:s.size≤1000) :
  Calls Tryz.prog 146 #[.string s] w (RMails5 (yV s.data.toList) (up s.data.toList) w):=by
 by_cases h20:s.size≤20
 ·
  have hm1:yV s.data.toList=((fp s.data.toList).2.2 && zm (fp s.data.toList).1 && FF xl (fp s.data.toList).2.1):=by
   unfold yV
   rw [zh,decide_eq_true h20,Bool.true_and]
  have hfl:(zF s.data.toList).length=s.size:=by rw [vh,zh]
  have HF:=z8 (Qf s w hs)
  unfold up
  rw [hm1]
  clear hm1
  have HCH:=z8 (cut5_hit s.data.toList)
  have HCN:=z8 (cut5_none s.data.toList)
  generalize hcc:fp s.data.toList=c at *
  clear hcc
  generalize zF s.data.toList=l at *
  generalize hn:s.size=n at *
  have z:¬ (n:Int) > 20:=by omega
  have z':¬ 20<n:=by omega
  obtain ⟨f,hf⟩:∃ f:ByteArray,f=⟨l.toArray⟩:=⟨_,rfl⟩
  have hfs:f.size=n:=by rw [hf]; show l.toArray.size=n; rw [List.size_toArray,hfl]
  have hfl2:f.data.toList=l:=by rw [hf]
  have HGet:Hid (∀ j (h:j<l.length) (h2:j<f.size),l[j]=f[j]):=fun j h h2=>by subst hf; rfl
  rw [← hf] at HF ⊢
  clear hf
  obtain ⟨r,hr⟩:∃ r:Bool,r=(c.2.2 && zm c.1 && FF xl c.2.1):=⟨_,rfl⟩
  obtain ⟨rt,hrt⟩:∃ rt:ByteArray,rt=if (c.2.2 && zm c.1 && FF xl c.2.1)=true then f else ⟨#[]⟩:=⟨_,rfl⟩
  rw [← hrt,← hr]
  rw [← hr] at hrt
  have HR:=z8 hr
  have HRT:=z8 hrt
  have HFL:=z8 hfl
  have HFL2:=z8 hfl2
  have HFS:=z8 hfs
  clear hr hrt hfl hfl2 hfs
  go_enter Tryz.func146,Tryz.ntmps146
  go_wp2_with fail
  with_reducible refine HF.out.mono ?_
  rintro e w1 ⟨rfl,q,rfl⟩
  have HQ:Hid (∃ q',w.drewN q=w.drewN q'):=⟨q,rfl⟩
  generalize w.drewN q=w1 at *
  clear HF
  have hfs:=HFS.out
  go_wp2
  go_loopg [4] n (fun gg s4 wr=>∃ k:Nat,k≤n∧n - k≤gg∧s4=.int .i64 k∧wr=w1∧Hid (∀ j (h:j<l.length),j<k→¬ l[j]=64))
  case atStart=>exact ⟨0,Nat.zero_le _,by omega,rfl,rfl,fun j _ hj=>absurd hj (Nat.not_lt_zero _)⟩
  case round =>
   obtain ⟨k,hk,hg,rfl,rfl,A⟩:=hrel
   by_cases hlt:k<n
   ·
    have hltz:(k:Int)<(n:Int):=by omega
    have hkf:k<f.size:=by omega
    have hkl:k<l.length:=by have:=HFL.out; omega
    have hx:∀ (h:k<f.size),((f[k]'h).toNat:Int)=bt5 f k:=fun h=>jQ f k h
    have hlx:=HGet.out k hkl hkf
    have h64:l[k]=64↔bt5 f k=64:=by
     rw [← hx hkf,hlx]
     constructor
     ·
      intro h; rw [h]; rfl
     ·
      intro h; exact UInt8.toNat_inj.1 (by have:(64:UInt8).toNat=64:=rfl; omega)
    by_cases hq:l[k]=64
    ·
     have hq':=h64.1 hq
     have hcc:=HCH.out k hkl A.out hq
     have hc1:c.1=l.take k:=by rw [hcc]
     have hc2:c.2.1=l.drop (k+1):=by rw [hcc]
     have hc3:c.2.2=true:=by rw [hcc]
     have HNM:=z8 (vI (f.extract 0 k) wr (by simp; omega))
     have hex:(f.extract 0 k).data.toList=l.take k:=by
      rw [← HFL2.out]
      exact Lib.extract_from_zero f k
     rw [hex,← hc1] at HNM
     have hct:=cut_to f k (by omega)
     generalize f.extract 0 k=f1 at *
     have hr1:r=(zm c.1 && FF xl (l.drop (k+1))):=by rw [HR.out,hc3,hc2,Bool.true_and]
     clear HR HCH HCN hcc hc2 hc3 hc1 hex h64 hlx hq A
     generalize zm c.1=bn at *
     have zk:¬ (k:Int)=(n:Int):=by omega
     have zk':¬ k=n:=by omega
     have zkb:((k:Int) == (n:Int))=false:=by simp; omega
     cases bn with
     | false =>
      have hr:r=false:=hr1
      have hrt:rt=⟨#[]⟩:=by rw [HRT.out,hr]; rfl
      subst hr; subst hrt
      clear hr1 HRT
      go_wp2_with fail
      with_reducible refine HNM.out.mono ?_
      rintro e w2 ⟨rfl,rfl⟩
      go_wp2
      go_ret2
      exact ⟨rfl,HQ.out⟩
     | true =>
      rw [Bool.true_and,← scan5_dom] at hr1
      have HR1:=z8 hr1
      clear hr1
      go_wp2_with fail
      with_reducible refine HNM.out.mono ?_
      rintro e w2 ⟨rfl,rfl⟩
      clear HNM hct
      go_wp2
      go_loopg [5,6,7] n (fun gg s5 s6 s7 wr=>∃ i st lg:Nat,i≤n∧n - i≤gg∧st≤i∧lg≤i∧s5=.int .i64 st∧s6=.int .i64 lg∧s7=.int .i64 i∧wr=w2∧Hid (r=Yh xl (l.drop i) st lg))
      case atStart=>exact ⟨k+1,0,0,by omega,by omega,by omega,by omega,rfl,rfl,by go_num,rfl,HR1⟩
      case round =>
       obtain ⟨i,st,lg,hi,hgi,hst,hlg,rfl,rfl,rfl,rfl,HS⟩:=hrel
       by_cases hil:i<n
       ·
        have hilz:(i:Int)<(n:Int):=by omega
        have hif:i<f.size:=by omega
        have hill:i<l.length:=by have:=HFL.out; omega
        have hxi:∀ (h:i<f.size),((f[i]'h).toNat:Int)=bt5 f i:=fun h=>jQ f i h
        have hli:=HGet.out i hill hif
        have hsc:r=Yh xl (f[i]::l.drop (i+1)) st lg:=by
         rw [HS.out,List.drop_eq_getElem_cons hill,hli]
        have HI:=z8 (hxi hif ▸ fJ f[i] wr)
        have h46:f[i]=46↔bt5 f i=46:=by
         rw [← hxi hif]
         constructor
         ·
          intro h; rw [h]; rfl
         ·
          intro h; exact UInt8.toNat_inj.1 (by have:(46:UInt8).toNat=46:=rfl; omega)
        rw [Yh] at hsc
        clear hx
        by_cases hd:f[i]=46
        ·
         rw [if_pos hd] at hsc
         have hd':=h46.1 hd
         clear h46 hd HI hli HS
         by_cases hl0:lg=0
         ·
          rw [if_pos hl0] at hsc
          have hrt:rt=⟨#[]⟩:=by rw [HRT.out,hsc]; rfl
          subst hsc; subst hrt
          have zl:(lg:Int)=0:=by omega
          clear HRT
          go_wp2
          go_ret2
          exact ⟨rfl,HQ.out⟩
         ·
          rw [if_neg hl0] at hsc
          have zl:¬ (lg:Int)=0:=by omega
          have HS2:=z8 hsc
          clear hsc
          go_wp2
          go_roundg (n - (i+1))
          case measure=>omega
          case rel=>exact ⟨i+1,st+1,0,by omega,by omega,by omega,by omega,by go_num,rfl,by go_num,rfl,HS2⟩
        ·
         rw [if_neg hd] at hsc
         have hd':¬ bt5 f i=46:=fun h=>hd (h46.2 h)
         clear h46 hd hli HS
         generalize xl f[i]=bb at *
         cases bb with
         | false =>
          have hrf:r=false:=hsc
          have hrt:rt=⟨#[]⟩:=by rw [HRT.out,hrf]; rfl
          subst hrf; subst hrt
          clear HRT hsc
          go_wp2_with fail
          with_reducible refine HI.out.mono ?_
          rintro e w3 ⟨rfl,rfl⟩
          go_wp2
          go_ret2
          exact ⟨rfl,HQ.out⟩
         | true =>
          have HS2:Hid (r=Yh xl (l.drop (i+1)) st (lg+1)):=hsc
          clear hsc
          go_wp2_with (go_at_call 219; with_reducible refine HI.out.mono ?_; rintro e w3 ⟨rfl,rfl⟩)
          go_roundg (n - (i+1))
          case measure=>omega
          case rel=>exact ⟨i+1,st,lg+1,by omega,by omega,by omega,by omega,rfl,by go_num,by go_num,rfl,HS2⟩
       ·
        have hilz:¬ (i:Int)<(n:Int):=by omega
        obtain rfl:i=n:=by omega
        have hnil:l.drop i=[]:=List.drop_eq_nil_of_le (by have:=HFL.out; omega)
        have hsc:r=(decide (1≤st) && decide (1≤lg)):=by rw [HS.out,hnil]; rfl
        clear hnil HS hx
        by_cases hs0:st=0
        ·
         have hrf:r=false:=by rw [hsc,decide_eq_false (by omega)]; rfl
         have hrt:rt=⟨#[]⟩:=by rw [HRT.out,hrf]; rfl
         subst hrf; subst hrt
         clear hsc HRT
         have zs:(st:Int)=0:=by omega
         go_wp2
         go_ret2
         exact ⟨rfl,HQ.out⟩
        ·
         have zs:¬ (st:Int)=0:=by omega
         have zsb:((st:Int) == 0)=false:=by simp; omega
         by_cases hl0:lg=0
         ·
          have hrf:r=false:=by rw [hsc,decide_eq_false (by omega:¬ 1≤lg),Bool.and_false]
          have hrt:rt=⟨#[]⟩:=by rw [HRT.out,hrf]; rfl
          subst hrf; subst hrt
          clear hsc HRT
          have zl:(lg:Int)=0:=by omega
          go_wp2
          go_ret2
          exact ⟨rfl,HQ.out⟩
         ·
          have zl:¬ (lg:Int)=0:=by omega
          have zlb:((lg:Int) == 0)=false:=by simp; omega
          have hrf:r=true:=by rw [hsc,decide_eq_true (by omega:1≤st),decide_eq_true (by omega:1≤lg)]; rfl
          have hrt:rt=f:=by rw [HRT.out,hrf]; rfl
          subst hrf; subst hrt
          clear hsc HRT
          go_wp2
          go_ret2
          exact ⟨rfl,HQ.out⟩
    ·
     have hq':¬ bt5 f k=64:=fun h=>hq (h64.2 h)
     have HQ2:=z8 hq
     clear hq h64 hlx
     go_wp2
     go_roundg (n - (k+1))
     case measure=>omega
     case rel =>
      refine ⟨k+1,by omega,by omega,by go_num,rfl,(show Hid _ from fun j h hj=>?_)⟩
      by_cases e:j=k
      ·
       subst e
       exact HQ2.out
      ·
       exact A.out j h (by omega)
   ·
    have hltz:¬ (k:Int)<(n:Int):=by omega
    obtain rfl:k=n:=by omega
    have hb:c.2.2=false:=HCN.out fun j hj=>A.out j hj (by have:=HFL.out; omega)
    have hr:r=false:=by rw [HR.out,hb]; rfl
    have hrt:rt=⟨#[]⟩:=by rw [HRT.out,hr]; rfl
    subst hr; subst hrt
    clear hb
    go_wp2
    go_ret2
    exact ⟨rfl,HQ.out⟩
 ·
  have hm1:yV s.data.toList=false:=by
   unfold yV
   rw [zh,decide_eq_false h20]; rfl
  have hm2:up s.data.toList=⟨#[]⟩:=by unfold up; rw [hm1]; rfl
  rw [hm1,hm2]
  clear hm1 hm2
  generalize hn:s.size=n at *
  have z:(n:Int) > 20:=by omega
  have z':20<n:=by omega
  go_enter Tryz.func146,Tryz.ntmps146
  go_wp2
  go_ret2
  exact ⟨rfl,0,rfl⟩
end Go.Proofs.YthmomkjingcbiaaGreatDoor
namespace Go.Proofs.YthmomkjingcbiaaGreatDoor
open Go

theorem returns_laid {H:Type} {enc:TypeId×Value→H} {a:Assume} {C:Checked} {os:Os} {f:FuncId} {fn:Func} {s:ChangeSpec} {conds:List PathCond} {apart fresh handsOn again:Bool} {X:World→Array Value→Prop}
  (own:ownKnob C.prog.godebug=none) (started:os.Started) (noInit:C.prog.inits.idxOf? f=none) (hfn:C.prog.funcs[f]? = some fn)
  (witness:∃ (w:World) (tape:Tape) (i:Input),w.os=os∧(w.forCall tape i).Shaped C.prog∧i.vars=[]∧Input.okWide C.prog (w.forCall tape i) .any w.heap.size f i ∧
   ((s.pre enc C.prog fn conds apart (w.forCall tape i).memory i.args∧X (w.forCall tape i).memory i.args)∧sizedMet enc C.prog fn (OpenSpec.ofChange s) apart (w.forCall tape i).memory i.args)∧a.holds C.prog (lone (Frame.enter C.prog f i.args .normal) [] (w.forCall tape i)))
  (contract:∀ (W:World) (base:Nat) (args:Array Value) (ds gs:List (DataW H)) (before:List MemPlace),
   (∀ (j:Nat) t v,fn.params[j]? = some t→args[j]? = some v→Value.okWide C.prog W .any base t v) →
   DataW.Whole enc C.prog fn.params.toList s.vars apart W args.toList ds gs before →
   W.ShapedOpen C.prog →
   Calls C.prog f args W fun e W'=>∃ v,e=.returned v∧s.post enc C.prog fn apart fresh handsOn again W args v W') :
  ReturnsInHanded a C os f .any (fun w args=>(s.pre enc C.prog fn conds apart w args∧X w args)∧sizedMet enc C.prog fn (OpenSpec.ofChange s) apart w args) (s.post enc C.prog fn apart fresh handsOn again):=by
 refine returnsInHanded_of_calls own started noInit witness ?_
 intro w tape i _ hsh _ hok hpre _
 obtain ⟨_,_,_,fn',hfn',_,_,_,_,hval⟩:=hok
 have e:fn'=fn:=Option.some.inj (hfn'.symm.trans hfn)
 subst e
 obtain ⟨⟨⟨ds,gs,before,hw,_⟩,_⟩,_⟩:=hpre
 have hw':=DataW.Whole.of_heap (w':=w.forCall tape i) (by rfl) hw
 refine (contract (w.forCall tape i) w.heap.size i.args ds gs before hval hw' hsh).mono fun e W' ⟨v,he,hp⟩=>?_
 subst he
 exact ChangeSpec.post_blind hp

theorem len5_of {W:World} (h:W.ShapedOpen Tryz.prog):vm W:=by
 obtain ⟨m,hm⟩:=cell_of_shapedOpen_int (P:=Tryz.prog) (g:=0) (t:=3) (zero:=#[.int .i64 0]) (k:=.i64) h (of_decide_eq_true (by kernel_rfl)) (by kernel_rfl) rfl (by kernel_rfl) (by kernel_rfl) Tryz.underlying3
 refine ⟨?_,m,hm⟩
 by_cases hl:0<W.heap.size
 ·
  exact hl
 ·
  exfalso
  have hn:W.heap[0]? = none:=Array.getElem?_eq_none (by omega)
  simp [World.cell?,hn] at hm
end Go.Proofs.YthmomkjingcbiaaGreatDoor
