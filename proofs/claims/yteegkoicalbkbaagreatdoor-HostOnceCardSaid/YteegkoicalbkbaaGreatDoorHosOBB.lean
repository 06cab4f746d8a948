/-
  The texts that the laws of this seat share, part 2: what the code and the document's own answers tell, walked function by function.
  Conditions: each theorem's own.
-/
import Derived.Test.YteegkoicalbkbaaGreatDoorRows
import Derived.ProofKit
import Derived.OpenShut
import Derived.ChangeOld
import Derived.SliceStrings
import Derived.Deep.Slices
import Derived.Shelf.Small.Bits
import Derived.Shelf.Small.Strs
import Derived.Shelf.Strconv.Itoa0
import Derived.Shelf.LaysM
import Derived.Shelf.Strconv.Clone
import Derived.Shelf.Strings.Search1
import Derived.Shelf.Strings.Search2
import Derived.Shelf.Strings.Search3
import Derived.Shelf.Strings.Cut
import Derived.Shelf.Strings.Count
import Derived.Shelf.Strings.Shaped
import Derived.Shelf.Strings.Prefix
import Derived.Shelf.Strings.Split
import Derived.Shelf.Strings.SplitShaped
import Derived.Shelf.Unicode.DecodeSlow
import Derived.Shelf.Slices.Equal
import Derived.Ground.Names2Prog
import Derived.Shelf.Slices.Clone
import Derived.Shelf.Slices.Empties2
import Derived.Ground.SlgnProg
import Derived.Shelf.SlicesE.Equal
import Derived.Ground.SlgfProg
import Derived.Shelf.SlicesE.IndexFunc
import Derived.Shelf.SlicesE.DeleteFunc
import Derived.Ground.SlsfProg
import Derived.Shelf.SlSortCmp.Insertion
import Derived.Shelf.SlSortCmp.SiftDown1
import Derived.Shelf.SlSortCmp.HeapSort1
import Derived.Shelf.SlSortCmp.Insertion1
import Derived.Shelf.SlSortCmp.Median1
import Derived.Shelf.SlSortCmp.Pivot1
import Derived.Shelf.SlSortCmp.ReverseRange1
import Derived.Shelf.SlSortCmp.PartialInsertion1
import Derived.Shelf.SlSortCmp.PartitionEqual1
import Derived.Shelf.SlSortCmp.Partition1
import Derived.Shelf.SlSortCmp.Pdq1
import Derived.Shelf.SlSortCmp.Whole1
import Derived.Ground.GgzProg
import Derived.Shelf.SlIter.Nil
import Derived.Ground.SlmcProg
import Derived.Shelf.SlMaps.Clone
import Derived.Shelf.SlSortCmp.NoneTotal
import Derived.Deep.LoopGhost
import Derived.Shelf.Abstract
import Derived.BigQuiet
import Derived.Lib.SplitLaws
import Derived.Lib.CountLaws
import Derived.Lib.Bytealg
import Derived.Lay
import Derived.SevenTiedAt
import Derived.MakeChecks
import Derived.Shelf.Vars
import Derived.Test.YteegkoicalbkbaaGreatDoorHosOBA
set_option maxHeartbeats 16000000
namespace Go.Proofs.YteegkoicalbkbaaGreatDoor
open Go.ChangeShapes Go.WideShapes Go.ChangeAt Go.RowKit Go.Deep


end Go.Proofs.YteegkoicalbkbaaGreatDoor
namespace Go.Proofs.YteegkoicalbkbaaGreatDoor
open Go.RowKit

section
variable {P:Program} {ops:Array Oper} {Q:Exit→Act→World→Prop} {md:Region.Mode}

theorem all_listed2 {listed:Array Bool} (hsz:listed.size=ops.size) (back:∀ (i:Nat) (o:Oper),ops[i]? = some o→∀ e∈o.after,Region.binds md e=true→e.on<i) (h:Region.ready md ops listed=[]) :
  ∀ j,j<ops.size→listed.getD j false=true:=by
 intro j
 induction j using Nat.strongRecOn with
 | _ j ih =>
  intro hj
  cases hl:listed.getD j false with
  | true=>rfl
  | false =>
   exfalso
   have hm:j∈Region.ready md ops listed:=by
    rw [mem_ready]
    refine ⟨?_,ops[j],Array.getElem?_eq_getElem hj,fun e he hb=>ih e.on (back j _ (Array.getElem?_eq_getElem hj) e he hb) (Nat.lt_trans (back j _ (Array.getElem?_eq_getElem hj) e he hb) hj)⟩
    have hlt:j<listed.size:=by omega
    simpa [Array.getD_eq_getD_getElem?,Array.getElem?_eq_getElem hlt] using hl
   rw [h] at hm
   cases hm

theorem wpAny_gen (a:Act) (I:(Nat→Bool)→(Nat→Value)→World→Prop) (hap:jo (ops.toList.map (·.dst))=true)
  (back:∀ (i:Nat) (o:Oper),ops[i]? = some o→∀ e∈o.after,Region.binds md e=true→e.on<i)
  (step:∀ (i:Nat) (o:Oper),ops[i]? = some o→∀ (L:Nat→Bool) (x:Nat→Value) (w:World),L i=false→(∀ d,(o.after.toList.any fun e=>Region.binds md e && e.on == d)=true→L d=true)→I L x w →
   ∀ K:Act→World→Prop,(∀ v w',I (ud L i) (upd x i v) w'→K ((xU (ops.toList.map (·.dst)) x 0 a).put o.dst v) w') →
    if Region.wanted o (yielded ops (xU (ops.toList.map (·.dst)) x 0 a).tmps)=true then Oper.wp P o (xU (ops.toList.map (·.dst)) x 0 a) w K Q else K ((xU (ops.toList.map (·.dst)) x 0 a).put o.dst undef) w)
  (fin:∀ (L:Nat→Bool) (x:Nat→Value) (w:World),(∀ j,j<ops.size→L j=true)→I L x w→Q .normal (xU (ops.toList.map (·.dst)) x 0 a) w) :
  ∀ (fuel:Nat) (listed:Array Bool) (x:Nat→Value) (w:World),listed.size=ops.size→listed.toList.count false≤fuel→I (fun j=>listed.getD j false) x w →
   wpAny P md ops Q fuel listed (xU (ops.toList.map (·.dst)) x 0 a) w:=by
 intro fuel
 induction fuel with
 | zero =>
  intro listed x w hsz hc hI
  have hall:∀ j,j<ops.size→listed.getD j false=true:=by
   intro j hj
   cases hl:listed.getD j false with
   | true=>rfl
   | false =>
    exfalso
    have hlt:j<listed.size:=by omega
    have:false∈listed.toList:=by
     rw [List.mem_iff_getElem]
     exact ⟨j,by simpa using hlt,by simpa [Array.getD_eq_getD_getElem?,Array.getElem?_eq_getElem hlt] using hl⟩
    have:=List.count_pos_iff.2 this
    omega
  refine ⟨?_,fin _ x w hall hI⟩
  rw [List.eq_nil_iff_forall_not_mem]
  intro j hj
  rw [mem_ready] at hj
  obtain ⟨h0,o,ho,_⟩:=hj
  have hj':=(Array.getElem?_eq_some_iff.1 ho).1
  have:=hall j hj'
  have hlt:j<listed.size:=by omega
  simp [Array.getD_eq_getD_getElem?,Array.getElem?_eq_getElem hlt] at h0 this
  rw [h0] at this
  cases this
 | succ fuel ih =>
  intro listed x w hsz hc hI
  refine ⟨fun hr=>fin _ x w (all_listed2 hsz back hr) hI,fun i hi=>?_⟩
  have hi':=hi
  rw [mem_ready] at hi'
  obtain ⟨h0,o,ho,hdep⟩:=hi'
  have hlt:i<listed.size:=by have:=(Array.getElem?_eq_some_iff.1 ho).1; omega
  have hfalse:listed[i]=false:=by simpa [Array.getD_eq_getD_getElem?,Array.getElem?_eq_getElem hlt] using h0
  have hdeps:∀ d,(o.after.toList.any fun e=>Region.binds md e && e.on == d)=true→listed.getD d false=true:=by
   intro j hj
   rw [List.any_eq_true] at hj
   obtain ⟨e,he,hb⟩:=hj
   simp only [Bool.and_eq_true,beq_iff_eq] at hb
   obtain ⟨hb1,rfl⟩:=hb
   exact hdep e (by simpa using he) hb1
  have hupd:(fun j=>(listed.setIfInBounds i true).getD j false)=ud (fun j=>listed.getD j false) i:=by
   funext j
   unfold ud
   by_cases e:j=i
   ·
    subst e; simp [hlt]
   ·
    rw [if_neg e,getD_set_ne false (Ne.symm e)]
  have hs:=step i o ho (fun j=>listed.getD j false) x w (by simp [Array.getD_eq_getD_getElem?,Array.getElem?_eq_getElem hlt,hfalse]) hdeps hI (wpAny P md ops Q fuel (listed.setIfInBounds i true)) (by
   intro v w' hI'
   have hd:(ops.toList.map (·.dst))[i]? = some o.dst:=by simp [ho]
   rw [putL_upd hap hd,Nat.zero_add]
   refine ih _ _ _ (by simpa using hsz) ?_ ?_
   ·
    have hcs:=List.count_set (a:=true) (b:=false) (l:=listed.toList) (i:=i) (by simpa using hlt)
    have hpos:0<listed.toList.count false:=List.count_pos_iff.2 (by rw [← hfalse]; simp)
    rw [Array.toList_setIfInBounds,hcs,show listed.toList[i]'(by simpa using hlt)=false from by simpa using hfalse,if_pos (by rfl),if_neg (by decide)]
    omega
   ·
    rw [hupd]; exact hI')
  unfold wpOp
  rw [ho]
  by_cases hw:Region.wanted o (yielded ops (xU (ops.toList.map (·.dst)) x 0 a).tmps)=true
  ·
   rw [if_pos hw] at hs
   simp only [hw,if_true]
   exact .inl hs
  ·
   rw [if_neg hw] at hs
   simp only [hw]
   exact hs

theorem vi {id:Nat} {w:World} {a:Act} (hm:P.follows .mixedOrders=true) (I:(Nat→Bool)→(Nat→Value)→World→Prop) (F:(Nat→Value)→Act) (hF:∀ x,xU (ops.toList.map (·.dst)) x 0 a=F x)
  (hap:jo (ops.toList.map (·.dst))=true) (hback:(ops.toList.zipIdx.all fun p=>p.1.after.all fun e=>!(Region.binds .any e) || decide (e.on<p.2))=true) (hI:∀ x,I (fun _=>false) x w.drew)
  (step:AllO (fun i o=>∀ (L:Nat→Bool) (x:Nat→Value) (w:World),L i=false→(∀ d,(o.after.toList.any fun e=>Region.binds .any e && e.on == d)=true→L d=true)→I L x w →
   ∀ K:Act→World→Prop,(∀ v w',I (ud L i) (upd x i v) w'→K ((F x).put o.dst v) w') →
    if Region.wanted o (yielded ops (F x).tmps)=true then Oper.wp P o (F x) w K Q else K ((F x).put o.dst undef) w) ops.toList 0)
  (fin:∀ (L:Nat→Bool) (x:Nat→Value) (w:World),(∀ j,j<ops.size→L j=true)→I L x w→Q .normal (F x) w):(Code.region id ops true).wp P Q a w:=by
 refine wp_region_any hm ?_
 have hb:∀ (i:Nat) (o:Oper),ops[i]? = some o→∀ e∈o.after,Region.binds .any e=true→e.on<i:=by
  intro i o ho e he hbd
  have hin:(o,i)∈ops.toList.zipIdx:=by
   rw [List.mem_zipIdx_iff_getElem?]
   simpa using ho
  have:=List.all_eq_true.1 hback _ hin
  have:=Array.all_eq_true_iff_forall_mem.1 this e he
  rw [hbd] at this
  simpa using this
 have h0:(fun j=>(Array.replicate ops.size false).getD j false)=fun _=>false:=by
  funext j
  by_cases h:j<ops.size <;> simp [Array.getD_eq_getD_getElem?,h]
 have:=wpAny_gen (P:=P) (md:=.any) (Q:=Q) a I hap hb (fun i o ho L x w h1 h2 h3 K hK=>by
   have hs:=step.at_ i o (by simpa using ho)
   rw [Nat.zero_add] at hs
   rw [hF] at hK ⊢
   exact hs L x w h1 h2 h3 K hK) (fun L x w h1 h2=>by rw [hF]; exact fin L x w h1 h2) ops.size (Array.replicate ops.size false) (fun i=>ownAt a (((ops.toList.map (·.dst))[i]?).getD none)) w.drew (by simp) (by simp)
   (by rw [h0]; exact hI _)
 rw [putL_own (fun i d hd=>by rw [Nat.zero_add,hd]; rfl)] at this
 exact this

theorem Q8 {id:Nat} {w:World} {a:Act} (hm:P.follows .mixedOrders=true) (Y:Nat→Value→World→Prop) (G:(Nat→Bool)→World→Prop) (F:(Nat→Value)→Act) (hF:∀ x,xU (ops.toList.map (·.dst)) x 0 a=F x)
  (hap:jo (ops.toList.map (·.dst))=true) (hback:(ops.toList.zipIdx.all fun p=>p.1.after.all fun e=>!(Region.binds .any e) || decide (e.on<p.2))=true) (hG:G (fun _=>false) w.drew)
  (step:AllO (fun i o=>∀ (L:Nat→Bool) (x:Nat→Value) (w:World),L i=false→(∀ d,(o.after.toList.any fun e=>Region.binds .any e && e.on == d)=true→L d=true)→G L w→(∀ j,(o.after.toList.any fun e=>Region.binds .any e && e.on == j)=true→Y j (x j) w) →
   ∀ K:Act→World→Prop,(∀ v w',Y i v w'→G (ud L i) w'→(∀ j,L j=true→Y j (x j) w→Y j (x j) w')→K ((F x).put o.dst v) w') →
    if Region.wanted o (yielded ops (F x).tmps)=true then Oper.wp P o (F x) w K Q else K ((F x).put o.dst undef) w) ops.toList 0)
  (fin:∀ (L:Nat→Bool) (x:Nat→Value) (w:World),(∀ j,j<ops.size→L j=true)→G L w→(∀ j,j<ops.size→Y j (x j) w)→Q .normal (F x) w):(Code.region id ops true).wp P Q a w :=
 vi hm (fun L x W=>G L W∧∀ j,L j=true→Y j (x j) W) F hF hap hback (fun _=>⟨hG,fun _ h=>by cases h⟩)
  (step.mono fun i o h L x w h1 h2 ⟨h3,h4⟩ K hK=>h L x w h1 h2 h3 (fun j hj=>h4 j (h2 j hj)) K fun v w' hy hg hk=>hK v w' ⟨hg,fun j hj=>by
   by_cases e:j=i
   ·
    subst e
    rw [show upd x j v j=v from if_pos rfl]
    exact hy
   ·
    rw [show upd x i v j=x j from if_neg e]
    rw [show ud L i j=L j from if_neg e] at hj
    exact hk j hj (h4 j hj)⟩)
  (fun L x w h1 ⟨h2,h3⟩=>fin L x w h1 h2 fun j hj=>h3 j (h1 j hj))
end
end Go.Proofs.YteegkoicalbkbaaGreatDoor
namespace Go.Proofs
open Go.Shelf
def Tryz.lays106_ren:Go.Shelf.Ren:=⟨fun | 106=>216 | 213=>232 | 265=>247 | n=>n,fun | 9=>9 | 3=>3 | n=>n,fun | n=>n⟩
theorem Tryz.lays106:Go.Proofs.Lays.n106 Tryz.prog Tryz.lays106_ren:={
 mixed:=by kernel_rfl
 f106:=Tryz.func216.trans (congrArg some (by kernel_rfl))
 f213:=Tryz.func232.trans (congrArg some (by kernel_rfl))
 f265:=Tryz.func247.trans (congrArg some (by kernel_rfl))
 t3:=Tryz.underlying3
 a3:=Tryz.isAgg3
 z3:=Tryz.sizeOf3
 v3:=Tryz.zeroValue3
 t9:=Tryz.underlying9
 a9:=Tryz.isAgg9
 z9:=Tryz.sizeOf9
 v9:=Tryz.zeroValue9 }
open Go.RowKit in
theorem Tryz.strings_Compare (a b:ByteArray) (w:World) :
  Calls Tryz.prog 216 #[.string a,.string b] w fun e w'=>e=.returned (.int .i64 (Lib.compareBytes a.data.toList b.data.toList))∧w'=w:=Any.strings_Compare Tryz.lays106 a b w
def Tryz.laysM316_ren:Go.Shelf.Ren:=⟨fun | 316=>218 | n=>n,fun | 9=>9 | 3=>3 | 4=>4 | 37=>62 | 0=>0 | 127=>304 | 5=>5 | n=>n,fun | n=>n⟩
theorem Tryz.laysM316:Go.Proofs.LaysM.n316 Tryz.prog Tryz.laysM316_ren:={
 mixed:=by kernel_rfl
 f316:=Tryz.func218.trans (congrArg some (by kernel_rfl))
 t0:=Tryz.underlying0
 a0:=Tryz.isAgg0
 z0:=Tryz.sizeOf0
 v0:=Tryz.zeroValue0
 t3:=Tryz.underlying3
 a3:=Tryz.isAgg3
 z3:=Tryz.sizeOf3
 v3:=Tryz.zeroValue3
 t4:=Tryz.underlying4
 a4:=Tryz.isAgg4
 z4:=Tryz.sizeOf4
 v4:=Tryz.zeroValue4
 t9:=Tryz.underlying9
 a9:=Tryz.isAgg9
 z9:=Tryz.sizeOf9
 v9:=Tryz.zeroValue9
 t37:=Tryz.underlying62
 a37:=Tryz.isAgg62
 z37:=Tryz.sizeOf62
 v37:=Tryz.zeroValue62
 t127:=Tryz.underlying304
 a127:=Tryz.isAgg304
 z127:=Tryz.sizeOf304
 v127:=Tryz.zeroValue304
 t5:=Tryz.underlying5
 a5:=Tryz.isAgg5
 z5:=Tryz.sizeOf5
 v5:=Tryz.zeroValue5
 i0:=by kernel_rfl
 i3:=by kernel_rfl
 i4:=by kernel_rfl
 i5:=by kernel_rfl
 i9:=by kernel_rfl
 i37:=by kernel_rfl
 i127:=by kernel_rfl }
open Go.RowKit in
theorem Tryz.stringslite_Clone (s:ByteArray) (w:World) (hlim:s.size≤281474976710656) :
  Calls Tryz.prog 218 #[.string s] w fun e w'=>e=.returned (.string s)∧Below w.heap.size w w':=Any.stringslite_Clone Tryz.laysM316 s w hlim
def Tryz.lays145_ren:Go.Shelf.Ren:=⟨fun | 145=>245 | 220=>253 | 219=>265 | 217=>272 | 225=>273 | 224=>274 | 267=>275 | 266=>280 | 314=>281 | n=>n,fun | 9=>9 | 4=>4 | 59=>311 | 3=>3 | 5=>5 | 46=>317 | 146=>341 | 51=>327 | n=>n,fun | 1=>1 | n=>n⟩
theorem Tryz.lays145:Go.Proofs.Lays.n145 Tryz.prog Tryz.lays145_ren:={
 mixed:=by kernel_rfl
 f145:=Tryz.func245.trans (congrArg some (by kernel_rfl))
 f217:=Tryz.func272.trans (congrArg some (by kernel_rfl))
 f219:=Tryz.func265.trans (congrArg some (by kernel_rfl))
 f220:=Tryz.func253.trans (congrArg some (by kernel_rfl))
 f224:=Tryz.func274.trans (congrArg some (by kernel_rfl))
 f225:=Tryz.func273.trans (congrArg some (by kernel_rfl))
 f266:=Tryz.func280.trans (congrArg some (by kernel_rfl))
 f267:=Tryz.func275.trans (congrArg some (by kernel_rfl))
 f314:=Tryz.func281.trans (congrArg some (by kernel_rfl))
 t3:=Tryz.underlying3
 a3:=Tryz.isAgg3
 z3:=Tryz.sizeOf3
 v3:=Tryz.zeroValue3
 t4:=Tryz.underlying4
 a4:=Tryz.isAgg4
 z4:=Tryz.sizeOf4
 v4:=Tryz.zeroValue4
 t5:=Tryz.underlying5
 a5:=Tryz.isAgg5
 z5:=Tryz.sizeOf5
 v5:=Tryz.zeroValue5
 t9:=Tryz.underlying9
 a9:=Tryz.isAgg9
 z9:=Tryz.sizeOf9
 v9:=Tryz.zeroValue9
 t46:=Tryz.underlying317
 a46:=Tryz.isAgg317
 z46:=Tryz.sizeOf317
 v46:=Tryz.zeroValue317
 t51:=Tryz.underlying327
 a51:=Tryz.isAgg327
 z51:=Tryz.sizeOf327
 v51:=Tryz.zeroValue327
 t59:=Tryz.underlying311
 a59:=Tryz.isAgg311
 z59:=Tryz.sizeOf311
 v59:=Tryz.zeroValue311
 t146:=Tryz.underlying341
 a146:=Tryz.isAgg341
 z146:=Tryz.sizeOf341
 v146:=Tryz.zeroValue341
 g1:=by kernel_rfl }
open Go.RowKit Go.Lib in
theorem Tryz.strings_Cut (s sep:ByteArray) (m:Int) (w:World) (hs:s.size<4294967281) (hm:w.cell? ⟨1,0,none⟩=some (.int .i64 m)) :
  Calls Tryz.prog 245 #[.string s,.string sep] w fun e w'=>e=.returned (.tuple #[.string ⟨(Lib.cut s.data.toList sep.data.toList).1.toArray⟩,.string ⟨(Lib.cut s.data.toList sep.data.toList).2.1.toArray⟩,.bool (Lib.cut s.data.toList sep.data.toList).2.2])∧∃ n,w'=w.drewN n:=Any.strings_Cut Tryz.lays145 s sep m w hs hm
def Tryz.lays99_ren:Go.Shelf.Ren:=⟨fun | 99=>323 | 206=>329 | n=>n,fun | 9=>9 | 4=>4 | 3=>3 | n=>n,fun | n=>n⟩
theorem Tryz.lays99:Go.Proofs.Lays.n99 Tryz.prog Tryz.lays99_ren:={
 mixed:=by kernel_rfl
 f99:=Tryz.func323.trans (congrArg some (by kernel_rfl))
 f206:=Tryz.func329.trans (congrArg some (by kernel_rfl))
 t3:=Tryz.underlying3
 a3:=Tryz.isAgg3
 z3:=Tryz.sizeOf3
 v3:=Tryz.zeroValue3
 t4:=Tryz.underlying4
 a4:=Tryz.isAgg4
 z4:=Tryz.sizeOf4
 v4:=Tryz.zeroValue4
 t9:=Tryz.underlying9
 a9:=Tryz.isAgg9
 z9:=Tryz.sizeOf9
 v9:=Tryz.zeroValue9 }
open Go.RowKit Go.Lib in
theorem Tryz.strings_HasPrefix (s p:ByteArray) (w:World) :
  Calls Tryz.prog 323 #[.string s,.string p] w fun e w'=>e=.returned (.bool (Lib.hasPrefix s.data.toList p.data.toList))∧w'=w:=Any.strings_HasPrefix Tryz.lays99 s p w
def Tryz.lays146_ren:Go.Shelf.Ren:=⟨fun | 146=>254 | 221=>266 | 268=>276 | 138=>277 | 143=>278 | 195=>282 | 197=>283 | 218=>284 | 219=>265 | 260=>285 | 217=>272 | 225=>273 | 224=>274 | 267=>275 | 266=>280 | 314=>281 | n=>n,fun | 9=>9 | 31=>29 | 3=>3 | 4=>4 | 0=>0 | 105=>344 | 21=>21 | 5=>5 | 46=>317 | 119=>346 | 139=>349 | 138=>348 | 146=>341 | 51=>327 | n=>n,fun | 1=>1 | 3=>2 | 4=>3 | n=>n⟩
theorem Tryz.lays146:Go.Proofs.Lays.n146 Tryz.prog Tryz.lays146_ren:={
 mixed:=by kernel_rfl
 f138:=Tryz.func277.trans (congrArg some (by kernel_rfl))
 f143:=Tryz.func278.trans (congrArg some (by kernel_rfl))
 f146:=Tryz.func254.trans (congrArg some (by kernel_rfl))
 f195:=Tryz.func282.trans (congrArg some (by kernel_rfl))
 f197:=Tryz.func283.trans (congrArg some (by kernel_rfl))
 f217:=Tryz.func272.trans (congrArg some (by kernel_rfl))
 f218:=Tryz.func284.trans (congrArg some (by kernel_rfl))
 f219:=Tryz.func265.trans (congrArg some (by kernel_rfl))
 f221:=Tryz.func266.trans (congrArg some (by kernel_rfl))
 f224:=Tryz.func274.trans (congrArg some (by kernel_rfl))
 f225:=Tryz.func273.trans (congrArg some (by kernel_rfl))
 f260:=Tryz.func285.trans (congrArg some (by kernel_rfl))
 f266:=Tryz.func280.trans (congrArg some (by kernel_rfl))
 f267:=Tryz.func275.trans (congrArg some (by kernel_rfl))
 f268:=Tryz.func276.trans (congrArg some (by kernel_rfl))
 f314:=Tryz.func281.trans (congrArg some (by kernel_rfl))
 t0:=Tryz.underlying0
 a0:=Tryz.isAgg0
 z0:=Tryz.sizeOf0
 v0:=Tryz.zeroValue0
 t3:=Tryz.underlying3
 a3:=Tryz.isAgg3
 z3:=Tryz.sizeOf3
 v3:=Tryz.zeroValue3
 t4:=Tryz.underlying4
 a4:=Tryz.isAgg4
 z4:=Tryz.sizeOf4
 v4:=Tryz.zeroValue4
 t5:=Tryz.underlying5
 a5:=Tryz.isAgg5
 z5:=Tryz.sizeOf5
 v5:=Tryz.zeroValue5
 t9:=Tryz.underlying9
 a9:=Tryz.isAgg9
 z9:=Tryz.sizeOf9
 v9:=Tryz.zeroValue9
 t21:=Tryz.underlying21
 a21:=Tryz.isAgg21
 z21:=Tryz.sizeOf21
 v21:=Tryz.zeroValue21
 t31:=Tryz.underlying29
 a31:=Tryz.isAgg29
 z31:=Tryz.sizeOf29
 v31:=Tryz.zeroValue29
 t46:=Tryz.underlying317
 a46:=Tryz.isAgg317
 z46:=Tryz.sizeOf317
 v46:=Tryz.zeroValue317
 t51:=Tryz.underlying327
 a51:=Tryz.isAgg327
 z51:=Tryz.sizeOf327
 v51:=Tryz.zeroValue327
 t105:=Tryz.underlying344
 a105:=Tryz.isAgg344
 z105:=Tryz.sizeOf344
 v105:=Tryz.zeroValue344
 t119:=Tryz.underlying346
 a119:=Tryz.isAgg346
 z119:=Tryz.sizeOf346
 t138:=Tryz.underlying348
 a138:=Tryz.isAgg348
 z138:=Tryz.sizeOf348
 v138:=Tryz.zeroValue348
 t139:=Tryz.underlying349
 a139:=Tryz.isAgg349
 z139:=Tryz.sizeOf349
 v139:=Tryz.zeroValue349
 t146:=Tryz.underlying341
 a146:=Tryz.isAgg341
 z146:=Tryz.sizeOf341
 v146:=Tryz.zeroValue341
 g1:=by kernel_rfl
 g3:=by kernel_rfl
 g4:=by kernel_rfl }
open Go.RowKit Go.Lib in
theorem Tryz.strings_Split (s sep:ByteArray) (m:Int) (w:World) (hs:s.size<4294967281) (hm:w.cell? ⟨1,0,none⟩=some (.int .i64 m)) (h1:1≤sep.size) :
  Calls Tryz.prog 254 #[.string s,.string sep] w fun e w' =>
   e=.returned (.slice (some ⟨w.heap.size,0,none⟩) (Lib.countB s sep+1) (Lib.countB s sep+1))∧w'=w.alloc (.cells ((Lib.splitB sep 0 (Lib.countB s sep) s).map Value.string).toArray 9):=Any.strings_Split Tryz.lays146 (by kernel_rfl) s sep m w hs hm h1
def Tryz.lays193_ren:Go.Shelf.Ren:=⟨fun | 193=>47 | n=>n,fun | 31=>29 | 9=>9 | 4=>4 | 3=>3 | 0=>0 | n=>n,fun | n=>n⟩
theorem Tryz.lays193:Go.Proofs.Lays.n193 Tryz.prog Tryz.lays193_ren:={
 mixed:=by kernel_rfl
 f193:=Tryz.func47.trans (congrArg some (by kernel_rfl))
 t0:=Tryz.underlying0
 a0:=Tryz.isAgg0
 z0:=Tryz.sizeOf0
 v0:=Tryz.zeroValue0
 t3:=Tryz.underlying3
 a3:=Tryz.isAgg3
 z3:=Tryz.sizeOf3
 v3:=Tryz.zeroValue3
 t4:=Tryz.underlying4
 a4:=Tryz.isAgg4
 z4:=Tryz.sizeOf4
 v4:=Tryz.zeroValue4
 t9:=Tryz.underlying9
 a9:=Tryz.isAgg9
 z9:=Tryz.sizeOf9
 v9:=Tryz.zeroValue9
 t31:=Tryz.underlying29
 a31:=Tryz.isAgg29
 z31:=Tryz.sizeOf29
 v31:=Tryz.zeroValue29 }
open Go.RowKit Go.Lib in
theorem Tryz.slices_Equal_string (b1 o1 n c b2 o2 m d:Nat) (xs ys:List ByteArray) (w:World) (hx:n≤xs.length) (hy:m≤ys.length) (hbig:n≤9223372036854775807) (hbig2:m≤9223372036854775807) (hc1:∀ j,j<xs.length→w.cell? ⟨b1,o1+j,none⟩=some (.string (xs.getD j ByteArray.empty))) (hc2:∀ j,j<ys.length→w.cell? ⟨b2,o2+j,none⟩=some (.string (ys.getD j ByteArray.empty))) :
  Calls Tryz.prog 47 #[.slice (some ⟨b1,o1,none⟩) n c,.slice (some ⟨b2,o2,none⟩) m d] w fun e w'=>e=.returned (.bool (decide (xs.take n=ys.take m)))∧∃ q,w'=w.drewN q:=Any.slices_Equal_string Tryz.lays193 b1 o1 n c b2 o2 m d xs ys w hx hy hbig hbig2 hc1 hc2
open Go.RowKit Go.Lib in
theorem Tryz.slices_Equal_string_empty (a1 a2:Option Addr) (c m d:Nat) (w:World) (hbig2:m≤9223372036854775807) :
  Calls Tryz.prog 47 #[.slice a1 0 c,.slice a2 m d] w fun e w'=>e=.returned (.bool (decide (m=0)))∧w'=w:=Any.slices_Equal_string_empty Tryz.lays193 a1 a2 c m d w hbig2
def Tryz.laysNm216_ren:Go.Shelf.Ren:=⟨fun | 16=>97 | n=>n,fun | 24=>29 | 9=>9 | 4=>4 | n=>n,fun | n=>n⟩
theorem Tryz.laysNm216:Go.Proofs.Lays2.n16 Tryz.prog Tryz.laysNm216_ren:={
 mixed:=by kernel_rfl
 f16:=Tryz.func97.trans (congrArg some (by kernel_rfl))
 t4:=Tryz.underlying4
 a4:=Tryz.isAgg4
 z4:=Tryz.sizeOf4
 v4:=Tryz.zeroValue4
 t9:=Tryz.underlying9
 a9:=Tryz.isAgg9
 z9:=Tryz.sizeOf9
 v9:=Tryz.zeroValue9
 t24:=Tryz.underlying29
 a24:=Tryz.isAgg29
 z24:=Tryz.sizeOf29
 v24:=Tryz.zeroValue29
 i9:=by kernel_rfl }
open Go.RowKit Go.Lib in
theorem Tryz.slices_Clone_string (b off n c:Nat) (zs:List ByteArray) (w:World) (hz:n≤zs.length) (hbig:n * 16≤140737488355328) (hc:∀ j,j<zs.length→w.cell? ⟨b,off+j,none⟩=some (.string (zs.getD j ByteArray.empty))) :
  Calls Tryz.prog 97 #[.slice (some ⟨b,off,none⟩) n c] w fun e w'=>∃ v',e=.returned v'∧w'.ownsRow w.heap.size 9 1 v' n ((zs.take n).map (Value.string))∧v'≠.slice none 0 0∧Below w.heap.size w w':=Any.slices_Clone_string Tryz.laysNm216 b off n c zs w hz hbig hc
open Go.RowKit Go.Lib in
theorem Tryz.slices_Clone_string_nil (n c:Nat) (w:World) :
  Calls Tryz.prog 97 #[.slice none n c] w fun e w'=>e=.returned (.slice none 0 0)∧w'=w:=Any.slices_Clone_string_nil Tryz.laysNm216 n c w
open Go.RowKit Go.Lib in
theorem Tryz.slices_Clone_string_zero (a:Addr) (c:Nat) (w:World) :
  Calls Tryz.prog 97 #[.slice (some a) 0 c] w fun e w'=>∃ v',e=.returned v'∧w'.ownsRow w.heap.size 9 1 v' 0 []∧v'≠.slice none 0 0∧Below w.heap.size w w':=Any.slices_Clone_string_zero Tryz.laysNm216 a c w
open Go.RowKit Go.Lib in
theorem Tryz.slices_Equal_string_lens (a1 a2:Option Addr) (n c m d:Nat) (w:World) (hnm:n≠m) :
  Calls Tryz.prog 47 #[.slice a1 n c,.slice a2 m d] w fun e w'=>e=.returned (.bool false)∧w'=w:=Any.slices_Equal_string_lens Tryz.lays193 a1 a2 n c m d w hnm
def Tryz.laysSlH6_f238_ren:Go.Shelf.Ren:=⟨fun | 6=>238 | n=>n,fun | 22=>29 | 23=>9 | 25=>242 | 3=>3 | 0=>0 | 4=>4 | n=>n,fun | n=>n⟩
theorem Tryz.laysSlH6_f238:Go.Proofs.SlLaysH.n6 Tryz.prog Tryz.laysSlH6_f238_ren:={
 mixed:=by kernel_rfl
 f6:=⟨Tryz.f238.name,by decide,Tryz.func238.trans (congrArg some (by kernel_rfl))⟩
 t0:=Tryz.underlying0
 a0:=Tryz.isAgg0
 z0:=Tryz.sizeOf0
 v0:=Tryz.zeroValue0
 t3:=Tryz.underlying3
 a3:=Tryz.isAgg3
 z3:=Tryz.sizeOf3
 v3:=Tryz.zeroValue3
 t4:=Tryz.underlying4
 a4:=Tryz.isAgg4
 z4:=Tryz.sizeOf4
 v4:=Tryz.zeroValue4
 t22:=Tryz.underlying29
 a22:=Tryz.isAgg29
 z22:=Tryz.sizeOf29
 v22:=Tryz.zeroValue29
 a23:=Tryz.isAgg9
 z23:=Tryz.sizeOf9
 t25:=Tryz.underlying242
 a25:=Tryz.isAgg242
 z25:=Tryz.sizeOf242
 v25:=Tryz.zeroValue242 }
open Go.RowKit Go.Lib in
theorem Tryz.slices_IndexFunc_empty_f238 {α:Type} [Inhabited α] (a:Option Addr) (c:Nat) (fv:Value) (w:World) :
  Calls Tryz.prog 238 #[.slice a 0 c,fv] w fun e w'=>e=.returned (.int .i64 (-1))∧w'=w:=AnyE.slices_IndexFunc_empty Tryz.laysSlH6_f238 a c fv w
def Tryz.laysSlH10_f324_ren:Go.Shelf.Ren:=⟨fun | 10=>324 | 6=>238 | n=>n,fun | 22=>29 | 23=>9 | 25=>242 | 3=>3 | 4=>4 | 0=>0 | n=>n,fun | n=>n⟩
theorem Tryz.laysSlH10_f324:Go.Proofs.SlLaysH.n10 Tryz.prog Tryz.laysSlH10_f324_ren:={
 mixed:=by kernel_rfl
 f6:=⟨Tryz.f238.name,by decide,Tryz.func238.trans (congrArg some (by kernel_rfl))⟩
 f10:=⟨Tryz.f324.name,by decide,Tryz.func324.trans (congrArg some (by kernel_rfl))⟩
 t0:=Tryz.underlying0
 a0:=Tryz.isAgg0
 z0:=Tryz.sizeOf0
 v0:=Tryz.zeroValue0
 t3:=Tryz.underlying3
 a3:=Tryz.isAgg3
 z3:=Tryz.sizeOf3
 v3:=Tryz.zeroValue3
 t4:=Tryz.underlying4
 a4:=Tryz.isAgg4
 z4:=Tryz.sizeOf4
 v4:=Tryz.zeroValue4
 t22:=Tryz.underlying29
 a22:=Tryz.isAgg29
 z22:=Tryz.sizeOf29
 v22:=Tryz.zeroValue29
 a23:=Tryz.isAgg9
 z23:=Tryz.sizeOf9
 t25:=Tryz.underlying242
 a25:=Tryz.isAgg242
 z25:=Tryz.sizeOf242
 v25:=Tryz.zeroValue242 }
open Go.RowKit Go.Lib Go.Sort in
theorem Tryz.slices_DeleteFunc {α:Type} [Inhabited α] (enc:α→Value) (hO:OneCell enc) (p:α→Bool) (g:Nat) (lb:Array Value) (eg:∀ args w,(callFunc g args).run Tryz.prog w=.ok (.enter g args) w) (zr:α) (v23:∀ w,(zeroValue 9).run Tryz.prog w=.ok (enc zr) w) (blk off cap:Nat) (d:Array α) (w:World) (hp:PredAt Tryz.prog g lb enc p w) (hpo:PredOver Tryz.prog g lb enc p blk off d.size w) (hH:Holds enc w blk off d) (hsz:d.size≤9223372036854775807) (hcap:d.size≤cap) :
  Calls Tryz.prog 324 #[.slice (some ⟨blk,off,none⟩) d.size cap,.func (.func g) #[] lb] w fun e w'=>e=.returned (.slice (some ⟨blk,off,none⟩) (d.toList.filter fun x=>!p x).length cap)∧∃ q,w'=putRow enc (Sort.ahead w q) blk off ((d.toList.filter fun x=>!p x)++List.replicate (d.size - (d.toList.filter fun x=>!p x).length) zr).toArray:=AnyE.slices_DeleteFunc Tryz.laysSlH10_f324 enc hO p g lb eg zr v23 blk off cap d w hp hpo hH hsz hcap
def Tryz.keys7_ren:Go.Shelf.Ren:=⟨fun | 7=>228 | 10=>243 | n=>n,fun | 23=>118 | 26=>9 | 3=>9 | 28=>299 | 0=>0 | 27=>298 | 33=>242 | 4=>4 | n=>n,fun | n=>n⟩
theorem Tryz.keys7:Go.Proofs.SlLaysZ.n7 Tryz.prog Tryz.keys7_ren:={
 mixed:=by kernel_rfl
 f7:=⟨Tryz.f228.name,by decide,Tryz.func228.trans (congrArg some (by kernel_rfl))⟩
 f10:=⟨Tryz.f243.name,by decide,Tryz.func243.trans (congrArg some (by kernel_rfl))⟩
 t0:=Tryz.underlying0
 a0:=Tryz.isAgg0
 z0:=Tryz.sizeOf0
 v0:=Tryz.zeroValue0
 t4:=Tryz.underlying4
 a4:=Tryz.isAgg4
 z4:=Tryz.sizeOf4
 v4:=Tryz.zeroValue4
 t23:=Tryz.underlying118
 a23:=Tryz.isAgg118
 z23:=Tryz.sizeOf118
 v23:=Tryz.zeroValue118
 t26:=Tryz.underlying9
 a26:=Tryz.isAgg9
 z26:=Tryz.sizeOf9
 v26:=Tryz.zeroValue9
 t27:=Tryz.underlying298
 a27:=Tryz.isAgg298
 z27:=Tryz.sizeOf298
 v27:=Tryz.zeroValue298
 t28:=Tryz.underlying299
 a28:=Tryz.isAgg299
 z28:=Tryz.sizeOf299
 v28:=Tryz.zeroValue299
 t33:=Tryz.underlying242
 a33:=Tryz.isAgg242
 z33:=Tryz.sizeOf242
 v33:=Tryz.zeroValue242 }
def Tryz.keys11_ren:Go.Shelf.Ren:=⟨fun | 7=>330 | 10=>333 | n=>n,fun | 23=>236 | 26=>9 | 3=>283 | 28=>299 | 0=>0 | 27=>298 | 33=>242 | 4=>4 | n=>n,fun | n=>n⟩
theorem Tryz.keys11:Go.Proofs.SlLaysZ.n7 Tryz.prog Tryz.keys11_ren:={
 mixed:=by kernel_rfl
 f7:=⟨Tryz.f330.name,by decide,Tryz.func330.trans (congrArg some (by kernel_rfl))⟩
 f10:=⟨Tryz.f333.name,by decide,Tryz.func333.trans (congrArg some (by kernel_rfl))⟩
 t0:=Tryz.underlying0
 a0:=Tryz.isAgg0
 z0:=Tryz.sizeOf0
 v0:=Tryz.zeroValue0
 t4:=Tryz.underlying4
 a4:=Tryz.isAgg4
 z4:=Tryz.sizeOf4
 v4:=Tryz.zeroValue4
 t23:=Tryz.underlying236
 a23:=Tryz.isAgg236
 z23:=Tryz.sizeOf236
 v23:=Tryz.zeroValue236
 t26:=Tryz.underlying9
 a26:=Tryz.isAgg9
 z26:=Tryz.sizeOf9
 v26:=Tryz.zeroValue9
 t27:=Tryz.underlying298
 a27:=Tryz.isAgg298
 z27:=Tryz.sizeOf298
 v27:=Tryz.zeroValue298
 t28:=Tryz.underlying299
 a28:=Tryz.isAgg299
 z28:=Tryz.sizeOf299
 v28:=Tryz.zeroValue299
 t33:=Tryz.underlying242
 a33:=Tryz.isAgg242
 z33:=Tryz.sizeOf242
 v33:=Tryz.zeroValue242 }
def Tryz.collect7_ren:Go.Shelf.Ren:=⟨fun | 8=>241 | 11=>250 | n=>n,fun | 26=>9 | 28=>299 | 24=>29 | 0=>0 | 33=>242 | 4=>4 | n=>n,fun | n=>n⟩
theorem Tryz.collect7:Go.Proofs.SlLaysZ.n8 Tryz.prog Tryz.collect7_ren:={
 mixed:=by kernel_rfl
 f8:=⟨Tryz.f241.name,by decide,Tryz.func241.trans (congrArg some (by kernel_rfl))⟩
 f11:=⟨Tryz.f250.name,by decide,Tryz.func250.trans (congrArg some (by kernel_rfl))⟩
 t0:=Tryz.underlying0
 a0:=Tryz.isAgg0
 z0:=Tryz.sizeOf0
 v0:=Tryz.zeroValue0
 t24:=Tryz.underlying29
 a24:=Tryz.isAgg29
 z24:=Tryz.sizeOf29
 v24:=Tryz.zeroValue29
 t26:=Tryz.underlying9
 a26:=Tryz.isAgg9
 z26:=Tryz.sizeOf9
 v26:=Tryz.zeroValue9
 t28:=Tryz.underlying299
 a28:=Tryz.isAgg299
 z28:=Tryz.sizeOf299
 v28:=Tryz.zeroValue299
 i26:=by kernel_rfl }
def Tryz.clone7_ren:Go.Shelf.Ren:=⟨fun | 5=>309 | 7=>311 | n=>n,fun | 23=>118 | 25=>9 | 3=>9 | 4=>4 | 20=>20 | n=>n,fun | n=>n⟩
theorem Tryz.clone7:Go.Proofs.SlLaysW.n5 Tryz.prog Tryz.clone7_ren:={
 mixed:=by kernel_rfl
 f5:=⟨Tryz.f309.name,by decide,Tryz.func309.trans (congrArg some (by kernel_rfl))⟩
 f7:=Tryz.func311.trans (congrArg some (by kernel_rfl))
 t4:=Tryz.underlying4
 a4:=Tryz.isAgg4
 z4:=Tryz.sizeOf4
 v4:=Tryz.zeroValue4
 t20:=Tryz.underlying20
 a20:=Tryz.isAgg20
 z20:=Tryz.sizeOf20
 v20:=Tryz.zeroValue20
 t23:=Tryz.underlying118
 a23:=Tryz.isAgg118
 z23:=Tryz.sizeOf118
 v23:=Tryz.zeroValue118 }
def Tryz.clone10_ren:Go.Shelf.Ren:=⟨fun | 5=>371 | 7=>311 | n=>n,fun | 23=>274 | 25=>9 | 3=>4 | 4=>4 | 20=>20 | n=>n,fun | n=>n⟩
theorem Tryz.clone10:Go.Proofs.SlLaysW.n5 Tryz.prog Tryz.clone10_ren:={
 mixed:=by kernel_rfl
 f5:=⟨Tryz.f371.name,by decide,Tryz.func371.trans (congrArg some (by kernel_rfl))⟩
 f7:=Tryz.func311.trans (congrArg some (by kernel_rfl))
 t4:=Tryz.underlying4
 a4:=Tryz.isAgg4
 z4:=Tryz.sizeOf4
 v4:=Tryz.zeroValue4
 t20:=Tryz.underlying20
 a20:=Tryz.isAgg20
 z20:=Tryz.sizeOf20
 v20:=Tryz.zeroValue20
 t23:=Tryz.underlying274
 a23:=Tryz.isAgg274
 z23:=Tryz.sizeOf274
 v23:=Tryz.zeroValue274 }
def Tryz.clone11_ren:Go.Shelf.Ren:=⟨fun | 5=>357 | 7=>311 | n=>n,fun | 23=>236 | 25=>9 | 3=>283 | 4=>4 | 20=>20 | n=>n,fun | n=>n⟩
theorem Tryz.clone11:Go.Proofs.SlLaysW.n5 Tryz.prog Tryz.clone11_ren:={
 mixed:=by kernel_rfl
 f5:=⟨Tryz.f357.name,by decide,Tryz.func357.trans (congrArg some (by kernel_rfl))⟩
 f7:=Tryz.func311.trans (congrArg some (by kernel_rfl))
 t4:=Tryz.underlying4
 a4:=Tryz.isAgg4
 z4:=Tryz.sizeOf4
 v4:=Tryz.zeroValue4
 t20:=Tryz.underlying20
 a20:=Tryz.isAgg20
 z20:=Tryz.sizeOf20
 v20:=Tryz.zeroValue20
 t23:=Tryz.underlying236
 a23:=Tryz.isAgg236
 z23:=Tryz.sizeOf236
 v23:=Tryz.zeroValue236 }

theorem Tryz.slices_IndexFunc_empty {α:Type} [Inhabited α] (a:Option Addr) (c:Nat) (fv:Value) (w:World) :
  Calls Tryz.prog 238 #[.slice a 0 c,fv] w fun e w'=>e=.returned (.int .i64 (-1))∧w'=w:=Tryz.slices_IndexFunc_empty_f238 (α:=α) a c fv w
def Tryz.laysSlF06_f242_ren:Go.Shelf.Ren:=⟨fun | 6=>242 | 15=>252 | 14=>251 | 28=>263 | 29=>264 | 20=>255 | 21=>256 | 22=>257 | 23=>258 | 24=>259 | 25=>260 | 26=>261 | 27=>262 | 46=>267 | 47=>268 | 48=>269 | 49=>270 | 50=>271 | 57=>279 | n=>n,fun | 22=>29 | 24=>9 | 25=>265 | 3=>3 | 39=>317 | 0=>0 | 53=>327 | 55=>32 | 4=>4 | 46=>321 | 45=>320 | 50=>161 | 5=>5 | 9=>9 | 66=>330 | 70=>334 | 76=>338 | 77=>339 | n=>n,fun | n=>n⟩
theorem Tryz.laysSlF06_f242:Go.Proofs.SlLaysF0.n6 Tryz.prog Tryz.laysSlF06_f242_ren:={
 mixed:=by kernel_rfl
 f6:=⟨Tryz.f242.name,by decide,Tryz.func242.trans (congrArg some (by kernel_rfl))⟩
 f14:=⟨Tryz.f251.name,by decide,Tryz.func251.trans (congrArg some (by kernel_rfl))⟩
 f15:=Tryz.func252.trans (congrArg some (by kernel_rfl))
 f20:=⟨Tryz.f255.name,by decide,Tryz.func255.trans (congrArg some (by kernel_rfl))⟩
 f21:=⟨Tryz.f256.name,by decide,Tryz.func256.trans (congrArg some (by kernel_rfl))⟩
 f22:=⟨Tryz.f257.name,by decide,Tryz.func257.trans (congrArg some (by kernel_rfl))⟩
 f23:=⟨Tryz.f258.name,by decide,Tryz.func258.trans (congrArg some (by kernel_rfl))⟩
 f24:=⟨Tryz.f259.name,by decide,Tryz.func259.trans (congrArg some (by kernel_rfl))⟩
 f25:=⟨Tryz.f260.name,by decide,Tryz.func260.trans (congrArg some (by kernel_rfl))⟩
 f26:=⟨Tryz.f261.name,by decide,Tryz.func261.trans (congrArg some (by kernel_rfl))⟩
 f27:=⟨Tryz.f262.name,by decide,Tryz.func262.trans (congrArg some (by kernel_rfl))⟩
 f28:=Tryz.func263.trans (congrArg some (by kernel_rfl))
 f29:=Tryz.func264.trans (congrArg some (by kernel_rfl))
 f46:=⟨Tryz.f267.name,by decide,Tryz.func267.trans (congrArg some (by kernel_rfl))⟩
 f47:=Tryz.func268.trans (congrArg some (by kernel_rfl))
 f48:=Tryz.func269.trans (congrArg some (by kernel_rfl))
 f49:=⟨Tryz.f270.name,by decide,Tryz.func270.trans (congrArg some (by kernel_rfl))⟩
 f50:=⟨Tryz.f271.name,by decide,Tryz.func271.trans (congrArg some (by kernel_rfl))⟩
 f57:=⟨Tryz.f279.name,by decide,Tryz.func279.trans (congrArg some (by kernel_rfl))⟩
 t0:=Tryz.underlying0
 a0:=Tryz.isAgg0
 z0:=Tryz.sizeOf0
 v0:=Tryz.zeroValue0
 t3:=Tryz.underlying3
 a3:=Tryz.isAgg3
 z3:=Tryz.sizeOf3
 v3:=Tryz.zeroValue3
 t4:=Tryz.underlying4
 a4:=Tryz.isAgg4
 z4:=Tryz.sizeOf4
 v4:=Tryz.zeroValue4
 t5:=Tryz.underlying5
 a5:=Tryz.isAgg5
 z5:=Tryz.sizeOf5
 v5:=Tryz.zeroValue5
 t9:=Tryz.underlying9
 a9:=Tryz.isAgg9
 z9:=Tryz.sizeOf9
 v9:=Tryz.zeroValue9
 t22:=Tryz.underlying29
 a22:=Tryz.isAgg29
 z22:=Tryz.sizeOf29
 v22:=Tryz.zeroValue29
 t25:=Tryz.underlying265
 a25:=Tryz.isAgg265
 z25:=Tryz.sizeOf265
 v25:=Tryz.zeroValue265
 t39:=Tryz.underlying317
 a39:=Tryz.isAgg317
 z39:=Tryz.sizeOf317
 v39:=Tryz.zeroValue317
 t45:=Tryz.underlying320
 a45:=Tryz.isAgg320
 z45:=Tryz.sizeOf320
 v45:=Tryz.zeroValue320
 t46:=Tryz.underlying321
 a46:=Tryz.isAgg321
 z46:=Tryz.sizeOf321
 v46:=Tryz.zeroValue321
 t50:=Tryz.underlying161
 a50:=Tryz.isAgg161
 z50:=Tryz.sizeOf161
 v50:=Tryz.zeroValue161
 t53:=Tryz.underlying327
 a53:=Tryz.isAgg327
 z53:=Tryz.sizeOf327
 v53:=Tryz.zeroValue327
 t55:=Tryz.underlying32
 a55:=Tryz.isAgg32
 z55:=Tryz.sizeOf32
 v55:=Tryz.zeroValue32
 t66:=Tryz.underlying330
 a66:=Tryz.isAgg330
 z66:=Tryz.sizeOf330
 v66:=Tryz.zeroValue330
 t70:=Tryz.underlying334
 a70:=Tryz.isAgg334
 z70:=Tryz.sizeOf334
 v70:=Tryz.zeroValue334
 t76:=Tryz.underlying338
 a76:=Tryz.isAgg338
 z76:=Tryz.sizeOf338
 v76:=Tryz.zeroValue338
 t77:=Tryz.underlying339
 a77:=Tryz.isAgg339
 z77:=Tryz.sizeOf339
 v77:=Tryz.zeroValue339 }
open Go.RowKit Go.Lib Go.Sort in
theorem Tryz.slices_SortFunc_none {α:Type} [Inhabited α] (p:Option Addr) (cap:Nat) (fv:Value) (w:World) :
  Calls Tryz.prog 242 #[.slice p 0 cap,fv] w fun e w'=>e=.returned (.tuple #[])∧w'=w:=AnyF.slices_SortFunc_none Tryz.laysSlF06_f242 p cap fv w
def Tryz.laysSlF6_f242_ren:Go.Shelf.Ren:=⟨fun | 6=>242 | 15=>252 | 14=>251 | 28=>263 | 29=>264 | 20=>255 | 21=>256 | 22=>257 | 23=>258 | 24=>259 | 25=>260 | 26=>261 | 27=>262 | 46=>267 | 47=>268 | 48=>269 | 49=>270 | 50=>271 | 57=>279 | n=>n,fun | 22=>29 | 24=>9 | 25=>265 | 3=>3 | 39=>317 | 0=>0 | 53=>327 | 55=>32 | 4=>4 | 46=>321 | 45=>320 | 50=>161 | 5=>5 | 9=>9 | 66=>330 | 70=>334 | 76=>338 | 77=>339 | n=>n,fun | n=>n⟩
theorem Tryz.laysSlF6_f242:Go.Proofs.SlLaysF.n6 Tryz.prog Tryz.laysSlF6_f242_ren:={
 mixed:=by kernel_rfl
 f6:=⟨Tryz.f242.name,by decide,Tryz.func242.trans (congrArg some (by kernel_rfl))⟩
 f14:=⟨Tryz.f251.name,by decide,Tryz.func251.trans (congrArg some (by kernel_rfl))⟩
 f15:=Tryz.func252.trans (congrArg some (by kernel_rfl))
 f20:=⟨Tryz.f255.name,by decide,Tryz.func255.trans (congrArg some (by kernel_rfl))⟩
 f21:=⟨Tryz.f256.name,by decide,Tryz.func256.trans (congrArg some (by kernel_rfl))⟩
 f22:=⟨Tryz.f257.name,by decide,Tryz.func257.trans (congrArg some (by kernel_rfl))⟩
 f23:=⟨Tryz.f258.name,by decide,Tryz.func258.trans (congrArg some (by kernel_rfl))⟩
 f24:=⟨Tryz.f259.name,by decide,Tryz.func259.trans (congrArg some (by kernel_rfl))⟩
 f25:=⟨Tryz.f260.name,by decide,Tryz.func260.trans (congrArg some (by kernel_rfl))⟩
 f26:=⟨Tryz.f261.name,by decide,Tryz.func261.trans (congrArg some (by kernel_rfl))⟩
 f27:=⟨Tryz.f262.name,by decide,Tryz.func262.trans (congrArg some (by kernel_rfl))⟩
 f28:=Tryz.func263.trans (congrArg some (by kernel_rfl))
 f29:=Tryz.func264.trans (congrArg some (by kernel_rfl))
 f46:=⟨Tryz.f267.name,by decide,Tryz.func267.trans (congrArg some (by kernel_rfl))⟩
 f47:=Tryz.func268.trans (congrArg some (by kernel_rfl))
 f48:=Tryz.func269.trans (congrArg some (by kernel_rfl))
 f49:=⟨Tryz.f270.name,by decide,Tryz.func270.trans (congrArg some (by kernel_rfl))⟩
 f50:=⟨Tryz.f271.name,by decide,Tryz.func271.trans (congrArg some (by kernel_rfl))⟩
 f57:=⟨Tryz.f279.name,by decide,Tryz.func279.trans (congrArg some (by kernel_rfl))⟩
 t0:=Tryz.underlying0
 a0:=Tryz.isAgg0
 z0:=Tryz.sizeOf0
 v0:=Tryz.zeroValue0
 t3:=Tryz.underlying3
 a3:=Tryz.isAgg3
 z3:=Tryz.sizeOf3
 v3:=Tryz.zeroValue3
 t4:=Tryz.underlying4
 a4:=Tryz.isAgg4
 z4:=Tryz.sizeOf4
 v4:=Tryz.zeroValue4
 t5:=Tryz.underlying5
 a5:=Tryz.isAgg5
 z5:=Tryz.sizeOf5
 v5:=Tryz.zeroValue5
 t9:=Tryz.underlying9
 a9:=Tryz.isAgg9
 z9:=Tryz.sizeOf9
 v9:=Tryz.zeroValue9
 t22:=Tryz.underlying29
 a22:=Tryz.isAgg29
 z22:=Tryz.sizeOf29
 v22:=Tryz.zeroValue29
 a24:=Tryz.isAgg9
 z24:=Tryz.sizeOf9
 t25:=Tryz.underlying265
 a25:=Tryz.isAgg265
 z25:=Tryz.sizeOf265
 v25:=Tryz.zeroValue265
 t39:=Tryz.underlying317
 a39:=Tryz.isAgg317
 z39:=Tryz.sizeOf317
 v39:=Tryz.zeroValue317
 t45:=Tryz.underlying320
 a45:=Tryz.isAgg320
 z45:=Tryz.sizeOf320
 v45:=Tryz.zeroValue320
 t46:=Tryz.underlying321
 a46:=Tryz.isAgg321
 z46:=Tryz.sizeOf321
 v46:=Tryz.zeroValue321
 t50:=Tryz.underlying161
 a50:=Tryz.isAgg161
 z50:=Tryz.sizeOf161
 v50:=Tryz.zeroValue161
 t53:=Tryz.underlying327
 a53:=Tryz.isAgg327
 z53:=Tryz.sizeOf327
 v53:=Tryz.zeroValue327
 t55:=Tryz.underlying32
 a55:=Tryz.isAgg32
 z55:=Tryz.sizeOf32
 v55:=Tryz.zeroValue32
 t66:=Tryz.underlying330
 a66:=Tryz.isAgg330
 z66:=Tryz.sizeOf330
 v66:=Tryz.zeroValue330
 t70:=Tryz.underlying334
 a70:=Tryz.isAgg334
 z70:=Tryz.sizeOf334
 v70:=Tryz.zeroValue334
 t76:=Tryz.underlying338
 a76:=Tryz.isAgg338
 z76:=Tryz.sizeOf338
 v76:=Tryz.zeroValue338
 t77:=Tryz.underlying339
 a77:=Tryz.isAgg339
 z77:=Tryz.sizeOf339
 v77:=Tryz.zeroValue339 }
open Go.RowKit Go.Lib Go.Sort in
theorem Tryz.slices_SortFunc_total {α:Type} [Inhabited α] (enc:α→Value) (h1:OneCell enc) (cf:α→α→Int) (hO:SWO (ltOf cf)) (g:Nat) (cb:Array Value) (blk off cap:Nat) (d:Array α) (w:World) (eg:∀ args w,(callFunc g args).run Tryz.prog w=.ok (.enter g args) w) (hcmp:CmpLays1 Tryz.prog g cb enc cf blk off d.size w) (hH:Holds enc w blk off d) (hblk:blk<w.heap.size) (hsz:d.size<4611686018427387904) (hT:∀ x y,(ltOf cf) x y=false→(ltOf cf) y x=false→x=y) :
  Calls Tryz.prog 242 #[.slice (some ⟨blk,off,none⟩) d.size cap,.func (.func g) #[] cb] w fun e w' =>
   e=.returned (.tuple #[])∧∃ n os,w'=sortWorld enc w blk off n (d.toList.mergeSort fun x y=>!(ltOf cf) y x).toArray os:=Any.slices_SortFunc_total Tryz.laysSlF6_f242 enc h1 cf hO g cb blk off cap d w eg hcmp hH hblk hsz hT
end Go.Proofs
namespace Go.Proofs.YteegkoicalbkbaaGreatDoor
open Go.RowKit Go.Shelf

theorem z7 {a b c:World} (h:Below a.heap.size a b) (k:Below b.heap.size b c):Below a.heap.size a c:=h.trans (k.mono h.size)
theorem zJ {a w:World} (h:Below a.heap.size a w) (q:Nat):Below a.heap.size a (w.drewN q):=⟨h.os,h.tape,h.output,h.size,h.block⟩
theorem zQ {a w:World} (h:Below a.heap.size a w):Below a.heap.size a w.drew:=⟨h.os,h.tape,h.output,h.size,h.block⟩
theorem zb {a w:World} (h:Below a.heap.size a w) (o:Obj):Below a.heap.size a (w.alloc o):=h.alloc h.size o

def encB (b:UInt8):Value:=.int .u8 b.toNat

def Vu (v:Value) (p:UInt8→Bool) (w:World):Prop :=
 ∃ g lb,v=.func (.func g) #[] lb∧(∀ args w,(callFunc g args).run Tryz.prog w=.ok (.enter g args) w) ∧
  ∀ (W:World) (x:UInt8),Below w.heap.size w W→Calls Tryz.prog g (#[encB x]++lb) W fun e w'=>e=.returned (.bool (p x))∧∃ q,w'=W.drewN q

theorem Vu.later {v:Value} {p:UInt8→Bool} {w W:World} (h:Vu v p w) (hb:Below w.heap.size w W):Vu v p W:=by
 obtain ⟨g,lb,e,eg,hp⟩:=h
 exact ⟨g,lb,e,eg,fun W' x hb'=>hp W' x (z7 hb hb')⟩
theorem Vu.like {v:Value} {p p':UInt8→Bool} {w:World} (h:Vu v p w) (e:∀ x,p x=p' x):Vu v p' w:=by
 obtain rfl:p=p':=funext e
 exact h

def inR (a b:Nat) (c:UInt8):Bool:=decide (a≤c.toNat) && decide (c.toNat≤b)

def Vr (p:UInt8→Bool) (w:World) (e:Ending) (w':World):Prop:=∃ g lb,e=.returned (.func (.func g) #[] lb)∧Vu (.func (.func g) #[] lb) p w'∧Below w.heap.size w w'

theorem mkf:∀ (fn:Fn) (first cap:Array Value) (w:World),(Instr.makeFunc fn first cap).run Tryz.prog w=.ok (.func fn first cap) w:=fun _ _ _ _=>rfl

set_option maxRecDepth 100000 in
theorem Q9 (B C a b:Nat) (x:UInt8) (w:World) (ha:w.cell? ⟨B,0,none⟩=some (.int .u8 a)) (hb:w.cell? ⟨C,0,none⟩=some (.int .u8 b)) :
  Calls Tryz.prog 248 #[encB x,.pointer (some ⟨B,0,none⟩),.pointer (some ⟨C,0,none⟩)] w fun e w'=>e=.returned (.bool (inR a b x))∧∃ q,w'=w.drewN q:=by
 unfold encB inR
 generalize x.toNat=n
 by_cases h1:a≤n <;> by_cases h2:n≤b
 all_goals
  have z1:(a:Int)≤(n:Int)↔a≤n:=by omega
  have z2:(n:Int)≤(b:Int)↔n≤b:=by omega
  go_enter Tryz.func248,Tryz.ntmps248
  go_wp2
  all_goals first | (exfalso; omega) | (go_ret; exact ⟨by simp [h1,h2],0,rfl⟩)

set_option maxRecDepth 100000 in
theorem Jz (a b:Nat) (w:World):Calls Tryz.prog 235 #[.int .u8 a,.int .u8 b] w (Vr (inR a b) w):=by
 have hmf:=mkf
 go_enter Tryz.func235,Tryz.ntmps235
 go_wp2
 go_ret
 refine ⟨_,_,rfl,?_,zb (zb (Below.refl _ _) _) _⟩
 refine ⟨_,_,rfl,enters_of Tryz.func248 (by kernel_rfl) rfl,fun W x hb=>?_⟩
 exact Q9 _ _ a b x W ((hb.cell (p:=⟨_,0,none⟩) (by simp; try omega)).trans (by simp)) ((hb.cell (p:=⟨_,0,none⟩) (by simp; try omega)).trans (by simp))

theorem uR (x y:Int) (a b:Nat) (hx:x=a) (hy:y=b) (w:World):Calls Tryz.prog 235 #[.int .u8 x,.int .u8 y] w (Vr (inR a b) w):=by
 subst hx; subst hy; exact Jz a b w

def jp (w:World) (B:Nat) (l:List (Value×(UInt8→Bool))):Prop :=
 B<w.heap.size∧∀ j (h:j<l.length),w.cell? ⟨B,j,none⟩=some l[j].1∧Vu l[j].1 l[j].2 w
theorem jp.later {w W:World} {B:Nat} {l:List (Value×(UInt8→Bool))} (h:jp w B l) (hb:Below w.heap.size w W):jp W B l :=
 ⟨Nat.lt_of_lt_of_le h.1 hb.size,fun j hj=>⟨(hb.cell (p:=⟨B,j,none⟩) h.1).trans (h.2 j hj).1,(h.2 j hj).2.later hb⟩⟩

set_option maxRecDepth 100000 in
theorem J8 (C B n cap:Nat) (l:List (Value×(UInt8→Bool))) (x:UInt8) (w:World) (hl:n=l.length) (hn:n≤1000) (hc:w.cell? ⟨C,0,none⟩=some (.slice (some ⟨B,0,none⟩) n cap)) (hr:jp w B l) :
  Calls Tryz.prog 249 #[encB x,.pointer (some ⟨C,0,none⟩)] w fun e w'=>e=.returned (.bool (l.any fun a=>a.2 x))∧∃ q,w'=w.drewN q:=by
 have HR:=za hr
 have HL:=za hl
 clear hr hl
 generalize hx:encB x=xv
 have HX:=za hx
 clear hx
 go_enter Tryz.func249,Tryz.ntmps249
 go_wp2
 go_loopg [5,8] n (fun gg _ s8 wr=>∃ kk q:Nat,kk≤n∧n - kk≤gg∧s8=.int .i64 kk∧wr=w.drewN q∧Hid (∀ j (h:j<l.length),j<kk→l[j].2 x=false))
 case atStart=>exact ⟨0,0,Nat.zero_le _,by omega,rfl,rfl,fun j _ hj=>absurd hj (Nat.not_lt_zero _)⟩
 case round =>
  obtain ⟨kk,q,hkk,hg,rfl,rfl,A⟩:=hrel
  by_cases hlt:kk<n
  ·
   have hltz:(kk:Int)<(n:Int):=by omega
   have hk:kk<l.length:=HL.out ▸ hlt
   obtain ⟨hcell,g,lb,hv,eg,hp⟩:=HR.out.2 kk hk
   have HF:=za (rfl:l[kk].2 x=l[kk].2 x)
   have hcall:=hp (w.drewN q) x (zJ (Below.refl _ _) q)
   rw [hv] at hcell
   rw [HX.out] at hcall
   have HC:=za hcall
   clear hp hcall hv
   cases hq:l[kk].2 x with
   | true =>
    have HQ:=za hq
    clear hq
    go_wp2_with (go_at_fn g; refine HC.out.mono ?_; rw [HQ.out]; rintro e w' ⟨rfl,q',rfl⟩)
    go_ret
    refine ⟨?_,_,rfl⟩
    have:(l.any fun a=>a.2 x)=true:=List.any_eq_true.2 ⟨l[kk],List.getElem_mem hk,HQ.out⟩
    rw [this]; rfl
   | false =>
    have HQ:=za hq
    clear hq
    go_wp2_with (go_at_fn g; refine HC.out.mono ?_; rw [HQ.out]; rintro e w' ⟨rfl,q',rfl⟩)
    go_roundg (n - (kk+1))
    case measure=>omega
    case rel =>
     refine ⟨kk+1,_,by omega,by omega,by go_num,rfl,(show Hid _ from fun j h hj=>?_)⟩
     by_cases e:j=kk
     ·
      subst e
      exact HQ.out
     ·
      exact A.out j h (by omega)
  ·
   have hltz:¬ (kk:Int)<(n:Int):=by omega
   have:kk=n:=by omega
   subst this
   go_wp2
   go_ret
   refine ⟨?_,q,rfl⟩
   have:(l.any fun a=>a.2 x)=false:=by
    rw [List.any_eq_false]
    intro a ha
    obtain ⟨j,hj,rfl⟩:=List.getElem_of_mem ha
    simp [A.out j hj (HL.out ▸ hj)]
   rw [this]; rfl

set_option maxRecDepth 100000 in
theorem jI (B n cap:Nat) (l:List (Value×(UInt8→Bool))) (w:World) (hl:n=l.length) (hn:n≤1000) (hr:jp w B l) :
  Calls Tryz.prog 236 #[.slice (some ⟨B,0,none⟩) n cap] w (Vr (fun x=>l.any fun a=>a.2 x) w):=by
 have hmf:=mkf
 have HR:=za hr
 have HL:=za hl
 clear hr hl
 go_enter Tryz.func236,Tryz.ntmps236
 go_wp2
 go_ret
 refine ⟨_,_,rfl,?_,zb (Below.refl _ _) _⟩
 refine ⟨_,_,rfl,enters_of Tryz.func249 (by kernel_rfl) rfl,fun W x hb=>?_⟩
 exact J8 _ B n cap l x W HL.out hn ((hb.cell (p:=⟨_,0,none⟩) (by simp)).trans (by simp)) (HR.out.later (z7 (zb (Below.refl _ _) _) hb))

def fK:UInt8→Bool:=inR 97 122
def FU:UInt8→Bool:=inR 48 57
def qo (x:UInt8):Bool:=fK x || FU x
def Qk (x:UInt8):Bool:=qo x || inR 45 45 x || inR 46 46 x

set_option maxRecDepth 100000 in
theorem Yz (w:World):Calls Tryz.prog 220 #[] w (Vr fK w):=by
 have HC:=za (uR 97 122 97 122 rfl rfl w)
 go_enter Tryz.func220,Tryz.ntmps220
 go_wp2_with fail
 with_reducible refine HC.out.mono ?_
 rintro e w1 ⟨g,lb,rfl,ha,hb⟩
 have HA:=za ha
 have HB:=za hb
 clear ha hb
 go_wp2
 go_ret
 exact ⟨g,lb,rfl,HA.out,HB.out⟩

set_option maxRecDepth 100000 in
theorem V9 (w:World):Calls Tryz.prog 237 #[] w (Vr FU w):=by
 have HC:=za (uR 48 57 48 57 rfl rfl w)
 go_enter Tryz.func237,Tryz.ntmps237
 go_wp2_with fail
 with_reducible refine HC.out.mono ?_
 rintro e w1 ⟨g,lb,rfl,ha,hb⟩
 have HA:=za ha
 have HB:=za hb
 clear ha hb
 go_wp2
 go_ret
 exact ⟨g,lb,rfl,HA.out,HB.out⟩

theorem jp.two {w:World} {B:Nat} {v1 v2:Value} {p1 p2:UInt8→Bool} (hB:B<w.heap.size) (c1:w.cell? ⟨B,0,none⟩=some v1) (c2:w.cell? ⟨B,1,none⟩=some v2) (a1:Vu v1 p1 w) (a2:Vu v2 p2 w) :
  jp w B [(v1,p1),(v2,p2)] :=
 ⟨hB,fun j hj=>match j,hj with
  | 0,_=>⟨c1,a1⟩
  | 1,_=>⟨c2,a2⟩
  | k+2,h=>absurd h (by simp)⟩
theorem jp.three {w:World} {B:Nat} {v1 v2 v3:Value} {p1 p2 p3:UInt8→Bool} (hB:B<w.heap.size) (c1:w.cell? ⟨B,0,none⟩=some v1) (c2:w.cell? ⟨B,1,none⟩=some v2) (c3:w.cell? ⟨B,2,none⟩=some v3) (a1:Vu v1 p1 w) (a2:Vu v2 p2 w) (a3:Vu v3 p3 w) :
  jp w B [(v1,p1),(v2,p2),(v3,p3)] :=
 ⟨hB,fun j hj=>match j,hj with
  | 0,_=>⟨c1,a1⟩
  | 1,_=>⟨c2,a2⟩
  | 2,_=>⟨c3,a3⟩
  | k+3,h=>absurd h (by simp)⟩

set_option maxRecDepth 100000 in
theorem Yf (w:World):Calls Tryz.prog 221 #[] w (Vr qo w):=by
 have HC:=za (Yz w)
 go_enter Tryz.func221,Tryz.ntmps221
 go_wp2_with fail
 with_reducible refine HC.out.mono ?_
 rintro e w1 ⟨g1,lb1,rfl,ha,hb⟩
 have HA1:=za ha
 have HB1:=za hb
 have HC2:=za (V9 w1)
 clear ha hb HC
 go_wp2_with fail
 with_reducible refine HC2.out.mono ?_
 rintro e w2 ⟨g2,lb2,rfl,ha,hb⟩
 have HA2:=za ha
 have HA1':=za (HA1.out.later hb)
 have HB2:=za (z7 HB1.out hb)
 clear ha hb HC2 HA1 HB1
 go_wp2_with fail
 have bl:=zb (Below.refl w2.heap.size w2) (.cells #[.func (.func g1) #[] lb1,.func (.func g2) #[] lb2] 291)
 refine (jI _ 2 _ [(_,fK),(_,FU)] _ rfl (by omega) (jp.two (by simp) (by simp) (by simp) (HA1'.out.later bl) (HA2.out.later bl))).mono ?_
 rintro e w3 ⟨g,lb,rfl,ha,hb⟩
 have HA:=za (ha.like (p':=qo) fun x=>by simp [qo])
 have HB:=za (z7 (z7 HB2.out bl) hb)
 clear ha hb bl
 go_wp2
 go_ret
 exact ⟨g,lb,rfl,HA.out,HB.out⟩

set_option maxRecDepth 100000 in
theorem sign_calls (w:World):Calls Tryz.prog 234 #[] w (Vr Qk w):=by
 have HC:=za (Yf w)
 go_enter Tryz.func234,Tryz.ntmps234
 go_wp2_with fail
 with_reducible refine HC.out.mono ?_
 rintro e w1 ⟨g1,lb1,rfl,ha,hb⟩
 have HA1:=za ha
 have HB1:=za hb
 have HC2:=za (uR 45 45 45 45 rfl rfl w1)
 clear ha hb HC
 go_wp2_with fail
 with_reducible refine HC2.out.mono ?_
 rintro e w2 ⟨g2,lb2,rfl,ha,hb⟩
 have HA2:=za ha
 have HA1':=za (HA1.out.later hb)
 have HB2:=za (z7 HB1.out hb)
 have HC3:=za (uR 46 46 46 46 rfl rfl w2)
 clear ha hb HC2 HA1 HB1
 go_wp2_with fail
 with_reducible refine HC3.out.mono ?_
 rintro e w3 ⟨g3,lb3,rfl,ha,hb⟩
 have HA3:=za ha
 have HA1:=za (HA1'.out.later hb)
 have HA2':=za (HA2.out.later hb)
 have HB3:=za (z7 HB2.out hb)
 clear ha hb HC3 HA1' HA2 HB2
 go_wp2_with fail
 have bl:=zb (Below.refl w3.heap.size w3) (.cells #[.func (.func g1) #[] lb1,.func (.func g2) #[] lb2,.func (.func g3) #[] lb3] 291)
 refine (jI _ 3 _ [(_,qo),(_,inR 45 45),(_,inR 46 46)] _ rfl (by omega) (jp.three (by simp) (by simp) (by simp) (by simp) (HA1.out.later bl) (HA2'.out.later bl) (HA3.out.later bl))).mono ?_
 rintro e w4 ⟨g,lb,rfl,ha,hb⟩
 have HA:=za (ha.like (p':=Qk) fun x=>by simp [Qk,Bool.or_assoc])
 have HB:=za (z7 (z7 HB3.out bl) hb)
 clear ha hb bl
 go_wp2
 go_ret
 exact ⟨g,lb,rfl,HA.out,HB.out⟩

def bt5 (s:ByteArray) (k:Nat):Int:=if h:k<s.size then ((s[k]'h).toNat:Int) else 0

set_option maxRecDepth 100000 in
theorem fO (s:ByteArray) (g:Nat) (lb:Array Value) (p:UInt8→Bool) (w:World) (hs:s.size≤9223372036854775807) (ha:Vu (.func (.func g) #[] lb) p w) :
  Calls Tryz.prog 233 #[.string s,.func (.func g) #[] lb] w fun e w'=>e=.returned (.bool (s.data.toList.all p))∧∃ q,w'=w.drewN q:=by
 obtain ⟨g',lb',hv,eg,hp⟩:=ha
 obtain ⟨rfl,rfl⟩:g'=g∧lb'=lb:=by simpa using hv.symm
 clear hv
 have HP:Hid (∀ (q:Nat) (x:UInt8),Calls Tryz.prog g' (#[encB x]++lb') (w.drewN q) fun e w'=>e=.returned (.bool (p x))∧∃ q',w'=(w.drewN q).drewN q'):=fun q x=>hp (w.drewN q) x (zJ (Below.refl _ _) q)
 clear hp
 generalize hn:s.size=n at *
 obtain ⟨r,hr⟩:∃ r,r=s.data.toList.all p:=⟨_,rfl⟩
 rw [← hr]
 have HR:=za hr
 clear hr
 go_enter Tryz.func233,Tryz.ntmps233
 go_wp2
 go_loopg [5,8] n (fun gg _ s8 wr=>∃ kk q:Nat,kk≤n∧n - kk≤gg∧s8=.int .i64 kk∧wr=w.drewN q∧Hid (∀ j (h:j<s.size),j<kk→p s[j]=true))
 case atStart=>exact ⟨0,0,Nat.zero_le _,by omega,rfl,rfl,fun j _ hj=>absurd hj (Nat.not_lt_zero _)⟩
 case round =>
  obtain ⟨kk,q,hkk,hg,rfl,rfl,A⟩:=hrel
  by_cases hlt:kk<n
  ·
   have hltz:(kk:Int)<(n:Int):=by omega
   have hk:kk<s.size:=hn ▸ hlt
   have hx:∀ (h:kk<s.size),((s[kk]'h).toNat:Int)=bt5 s kk:=fun h=>by unfold bt5; rw [dif_pos h]
   have hcall:Calls Tryz.prog g' (#[Value.int .u8 (bt5 s kk)]++lb') (w.drewN q) (fun e w'=>e=.returned (.bool (p s[kk]))∧∃ q',w'=(w.drewN q).drewN q'):=by rw [← hx hk]; exact HP.out q s[kk]
   cases hq:p s[kk] with
   | true =>
    rw [hq] at hcall
    have HC:=za hcall
    have HQ:=za hq
    clear hq hcall
    go_wp2_with (go_at_fn g'; refine HC.out.mono ?_; rintro e w' ⟨rfl,q',rfl⟩)
    go_roundg (n - (kk+1))
    case measure=>omega
    case rel =>
     refine ⟨kk+1,_,by omega,by omega,by go_num,rfl,(show Hid _ from fun j h hj=>?_)⟩
     by_cases e:j=kk
     ·
      subst e
      exact HQ.out
     ·
      exact A.out j h (by omega)
   | false =>
    rw [hq] at hcall
    have HC:=za hcall
    have HQ:=za hq
    clear hq hcall
    go_wp2_with (go_at_fn g'; refine HC.out.mono ?_; rintro e w' ⟨rfl,q',rfl⟩)
    go_ret
    refine ⟨?_,_,rfl⟩
    have:(s.data.toList.all p)=false:=by
     rw [List.all_eq_false]
     exact ⟨s[kk],Array.mem_toList_iff.2 (Array.getElem_mem (xs:=s.data) (i:=kk) hk),by rw [HQ.out]; simp⟩
    rw [HR.out,this]; rfl
  ·
   have hltz:¬ (kk:Int)<(n:Int):=by omega
   have:kk=n:=by omega
   subst this
   have HN:=za hn
   clear hn
   go_wp2
   go_ret
   refine ⟨?_,q,rfl⟩
   have:(s.data.toList.all p)=true:=by
    rw [List.all_eq_true]
    intro a ha
    obtain ⟨j,hj,rfl⟩:=Array.getElem_of_mem (Array.mem_toList_iff.1 ha)
    exact A.out j hj (by have:=HN.out; rw [← this]; exact hj)
   rw [HR.out,this]; rfl
end Go.Proofs.YteegkoicalbkbaaGreatDoor
namespace Go.Proofs.YteegkoicalbkbaaGreatDoor
open Go.RowKit

def uM (l:List UInt8):Bool:=decide (l.length≤12) && l.all Qk
def zh (l:List UInt8):Bool:=decide (1≤l.length) && uM l && fK (l.headD 0) && qo (l.getLastD 0)
def FB (x:UInt8):Bool:=FU x || inR 97 102 x
def yj (l:List UInt8):Bool:=decide (1≤l.length) && decide (l.length≤12) && l.all FB

def yL (b:Bool) (w:World) (e:Ending) (w':World):Prop:=e=.returned (.bool b)∧Below w.heap.size w w'
def yG (n:Int) (w:World) (e:Ending) (w':World):Prop:=e=.returned (.int .i64 n)∧Below w.heap.size w w'

theorem zx (s:ByteArray):s.data.toList.length=s.size:=by simp

set_option maxRecDepth 100000 in
theorem Yv (s:ByteArray) (w:World) (hs:s.size≤9223372036854775807) :
  Calls Tryz.prog 219 #[.string s] w (yL (uM s.data.toList) w):=by
 generalize hr:uM s.data.toList=r
 have hr':(decide (s.size≤12) && s.data.toList.all Qk)=r:=by rw [← hr,uM,zx]
 clear hr
 have HS:=za hs
 have HV:Hid (∀ g lb w,Vu (.func (.func g) #[] lb) Qk w→Calls Tryz.prog 233 #[.string s,.func (.func g) #[] lb] w fun e w'=>e=.returned (.bool (s.data.toList.all Qk))∧∃ q,w'=w.drewN q) :=
  fun g lb w ha=>fO s g lb Qk w hs ha
 by_cases h12:s.size≤12
 ·
  have hr2:s.data.toList.all Qk=r:=by simpa [h12] using hr'
  rw [hr2] at HV
  clear hr' hr2 hs
  generalize hn:s.size=n at *
  have z:(n:Int)≤12:=by omega
  have HC:=za (sign_calls w)
  go_enter Tryz.func219,Tryz.ntmps219
  go_wp2_with fail
  with_reducible refine HC.out.mono ?_
  rintro e w1 ⟨g,lb,rfl,ha,hb⟩
  have HB:=za hb
  have HE:=za (HV.out g lb w1 ha)
  clear ha hb HC HV
  go_wp2_with fail
  with_reducible refine HE.out.mono ?_
  rintro e w2 ⟨rfl,q,rfl⟩
  go_wp2
  go_ret
  exact ⟨rfl,zJ HB.out q⟩
 ·
  have hr2:false=r:=by simpa [h12] using hr'
  clear hr' HV
  subst hr2
  generalize hn:s.size=n at *
  have z:¬ (n:Int)≤12:=by omega
  go_enter Tryz.func219,Tryz.ntmps219
  go_wp2
  go_ret
  exact ⟨rfl,Below.refl _ _⟩

theorem Vu.at_ {g:Nat} {lb:Array Value} {p:UInt8→Bool} {w:World} (h:Vu (.func (.func g) #[] lb) p w) (x:UInt8) (n:Int) (hx:(x.toNat:Int)=n) (b:Bool) (hb:p x=b) :
  (∀ args w,(callFunc g args).run Tryz.prog w=.ok (.enter g args) w)∧Calls Tryz.prog g (#[.int .u8 n]++lb) w fun e w'=>e=.returned (.bool b)∧∃ q,w'=w.drewN q:=by
 obtain ⟨g',lb',hv,eg,hp⟩:=h
 obtain ⟨rfl,rfl⟩:g'=g∧lb'=lb:=by simpa using hv.symm
 subst hx; subst hb
 exact ⟨eg,hp w x (Below.refl _ _)⟩

theorem bt5_eq (s:ByteArray) (k:Nat) (h:k<s.size):(s[k].toNat:Int)=bt5 s k:=by unfold bt5; rw [dif_pos h]

theorem head_at (s:ByteArray) (h:0<s.size):s.data.toList.headD 0=s[0]:=by
 obtain ⟨⟨l⟩⟩:=s
 cases l with
 | nil=>exact absurd h (by decide)
 | cons a l=>rfl
theorem last_at (s:ByteArray) (h:0<s.size):s.data.toList.getLastD 0=s[s.size - 1]:=by
 obtain ⟨⟨l⟩⟩:=s
 have hl0:l≠[]:=by intro e; subst e; exact absurd h (by decide)
 rw [List.getLastD_eq_getLast?,List.getLast?_eq_some_getLast hl0]
 simp [List.getLast_eq_getElem]
 rfl

set_option maxRecDepth 100000 in
theorem UC (s:ByteArray) (w:World) (hs:s.size≤9223372036854775807) :
  Calls Tryz.prog 196 #[.string s] w (yL (zh s.data.toList) w):=by
 by_cases h0:s.size=0
 ·
  obtain rfl:s=⟨#[]⟩:=by
   obtain ⟨d⟩:=s
   obtain rfl:d=#[]:=Array.eq_empty_of_size_eq_zero h0
   rfl
  have:zh (ByteArray.mk #[]).data.toList=false:=rfl
  rw [this]
  clear this hs h0
  go_enter Tryz.func196,Tryz.ntmps196
  go_wp2
  go_ret
  exact ⟨rfl,Below.refl _ _⟩
 ·
  have hne:¬ s.toList=[]:=fun e=>h0 (by rw [← zx,← ByteArray.toList_eq,e]; rfl)
  have hne2:s.toList.isEmpty=false:=by simpa using hne
  have hpos:0<s.size:=by omega
  have hh:=head_at s hpos
  have hl:=last_at s hpos
  have he:zh s.data.toList=(uM s.data.toList && fK s[0] && qo s[s.size - 1]):=by
   unfold zh
   rw [hh,hl,zx,decide_eq_true (by omega:1≤s.size),Bool.true_and]
  rw [he]
  clear he hh hl
  have HP:=za (Yv s w hs)
  have hb0:=bt5_eq s 0 hpos
  have hb1:=bt5_eq s (s.size - 1) (by omega)
  have HA0:Hid (∀ g lb w,Vu (.func (.func g) #[] lb) fK w→_):=fun g lb w ha=>Vu.at_ (w:=w) (g:=g) (lb:=lb) ha s[0] _ hb0 _ rfl
  have HA1:Hid (∀ g lb w,Vu (.func (.func g) #[] lb) qo w→_):=fun g lb w ha=>Vu.at_ (w:=w) (g:=g) (lb:=lb) ha s[s.size - 1] _ hb1 _ rfl
  have HS0:Hid (∀ (h:0<s.size),((s[0]'h).toNat:Int)=bt5 s 0):=fun h=>bt5_eq s 0 h
  have HS1:Hid (∀ (h:s.size - 1<s.size),((s[s.size - 1]'h).toNat:Int)=bt5 s (s.size - 1)):=fun h=>bt5_eq s _ h
  clear hb0 hb1
  generalize uM s.data.toList=bp at *
  generalize fK s[0]=b0 at *
  generalize qo s[s.size - 1]=b1 at *
  generalize bt5 s 0=n0 at *
  generalize hn1:bt5 s (s.size - 1)=n1 at *
  clear hn1
  cases bp with
  | false =>
   show Calls _ _ _ _ (yL false w)
   clear HA0 HA1 HS0 HS1
   generalize hn:s.size=n at *
   go_enter Tryz.func196,Tryz.ntmps196
   go_wp2_with fail
   with_reducible refine HP.out.mono ?_
   rintro e w1 ⟨rfl,hb⟩
   have HB:=za hb
   clear hb HP
   go_wp2
   go_ret
   exact ⟨rfl,HB.out⟩
  | true =>
   show Calls _ _ _ _ (yL (b0 && b1) w)
   have hs0:=HS0.out
   have hs1:=HS1.out
   have z:(s.size:Int) - 1=((s.size - 1:Nat):Int):=by omega
   clear HS0 HS1
   go_enter Tryz.func196,Tryz.ntmps196
   go_wp2_with fail
   with_reducible refine HP.out.mono ?_
   rintro e w1 ⟨rfl,hb⟩
   have HB:=za hb
   clear hb HP
   go_wp2_with fail
   go_quiet (fail)
   clear hs0 hs1 z
   generalize hw2:w1.drewN nq=w2
   have HB2:=za (hw2 ▸ zJ HB.out nq)
   clear hw2 HB
   generalize hn:s.size=n at *
   generalize ((n - 1:Nat):Int)=nm at *
   have HC:=za (Yz w2)
   go_wp2_with fail
   with_reducible refine HC.out.mono ?_
   rintro e w3 ⟨g,lb,rfl,ha,hb⟩
   have HB3:=za (z7 HB2.out hb)
   obtain ⟨eg,hc⟩:=HA0.out g lb w3 ha
   have HC0:=za hc
   clear ha hb HC HB2 HA0 hc
   cases b0 with
   | false =>
    show _
    go_wp2_with (go_at_fn g; refine HC0.out.mono ?_; rintro e w4 ⟨rfl,q,rfl⟩)
    go_ret
    exact ⟨rfl,zJ HB3.out q⟩
   | true =>
    go_wp2_with (first | (go_at_fn g; refine HC0.out.mono ?_; rintro e w4 ⟨rfl,q,rfl⟩) | fail)
    have HD:=za (Yf (w3.drewN q))
    with_reducible refine HD.out.mono ?_
    rintro e w5 ⟨g',lb',rfl,ha,hb⟩
    have HB5:=za (z7 (zJ HB3.out q) hb)
    obtain ⟨eg',hc⟩:=HA1.out g' lb' w5 ha
    have HC1:=za hc
    clear ha hb HB3 HA1 hc HD eg HC0
    go_wp2_with (go_at_fn g'; refine HC1.out.mono ?_; rintro e w6 ⟨rfl,q',rfl⟩)
    go_ret
    exact ⟨by simp,zJ HB5.out q'⟩

set_option maxRecDepth 100000 in
theorem hash_calls (s:ByteArray) (w:World) (hs:s.size≤9223372036854775807) :
  Calls Tryz.prog 229 #[.string s] w (yL (yj s.data.toList) w):=by
 by_cases h0:s.size=0
 ·
  obtain rfl:s=⟨#[]⟩:=by
   obtain ⟨d⟩:=s
   obtain rfl:d=#[]:=Array.eq_empty_of_size_eq_zero h0
   rfl
  have:yj (ByteArray.mk #[]).data.toList=false:=rfl
  rw [this]
  clear this hs h0
  go_enter Tryz.func229,Tryz.ntmps229
  go_wp2
  go_ret
  exact ⟨rfl,Below.refl _ _⟩
 ·
  have hne:¬ s.toList=[]:=fun e=>h0 (by rw [← zx,← ByteArray.toList_eq,e]; rfl)
  have hne2:s.toList.isEmpty=false:=by simpa using hne
  have he:yj s.data.toList=(decide (s.size≤12) && s.data.toList.all FB):=by
   unfold yj
   rw [zx,decide_eq_true (by omega:1≤s.size),Bool.true_and]
  have HV:Hid (∀ g lb w,Vu (.func (.func g) #[] lb) FB w→Calls Tryz.prog 233 #[.string s,.func (.func g) #[] lb] w fun e w'=>e=.returned (.bool (s.data.toList.all FB))∧∃ q,w'=w.drewN q) :=
   fun g lb w ha=>fO s g lb FB w hs ha
  by_cases h12:s.size≤12
  ·
   rw [he,decide_eq_true h12,Bool.true_and]
   clear he
   generalize s.data.toList.all FB=r at *
   generalize hn:s.size=n at *
   have z:(n:Int)≤12:=by omega
   have HC:=za (V9 w)
   go_enter Tryz.func229,Tryz.ntmps229
   go_wp2_with fail
   with_reducible refine HC.out.mono ?_
   rintro e w1 ⟨g1,lb1,rfl,ha,hb⟩
   have HA1:=za ha
   have HB1:=za hb
   have HC2:=za (uR 97 102 97 102 rfl rfl w1)
   clear ha hb HC
   go_wp2_with fail
   with_reducible refine HC2.out.mono ?_
   rintro e w2 ⟨g2,lb2,rfl,ha,hb⟩
   have HA2:=za ha
   have HA1':=za (HA1.out.later hb)
   have HB2:=za (z7 HB1.out hb)
   clear ha hb HC2 HA1 HB1
   go_wp2_with fail
   have bl:=zb (Below.refl w2.heap.size w2) (.cells #[.func (.func g1) #[] lb1,.func (.func g2) #[] lb2] 291)
   refine (jI _ 2 _ [(_,FU),(_,inR 97 102)] _ rfl (by omega) (jp.two (by simp) (by simp) (by simp) (HA1'.out.later bl) (HA2.out.later bl))).mono ?_
   rintro e w3 ⟨g,lb,rfl,ha,hb⟩
   have HE:=za (HV.out g lb w3 (ha.like (p':=FB) fun x=>by simp [FB]))
   have HB:=za (z7 (z7 HB2.out bl) hb)
   clear ha hb bl HV HA1' HA2 HB2
   go_wp2_with fail
   with_reducible refine HE.out.mono ?_
   rintro e w4 ⟨rfl,q,rfl⟩
   go_wp2
   go_ret
   exact ⟨rfl,zJ HB.out q⟩
  ·
   rw [he,decide_eq_false h12,Bool.false_and]
   clear he HV
   generalize hn:s.size=n at *
   have z:¬ (n:Int)≤12:=by omega
   go_enter Tryz.func229,Tryz.ntmps229
   go_wp2
   go_ret
   exact ⟨rfl,Below.refl _ _⟩

def zi (b:Bool) (n:Int):Int:=if b then 0 else n

set_option maxRecDepth 100000 in
theorem zW (s:ByteArray) (w:World) (hs:s.size≤9223372036854775807) :
  Calls Tryz.prog 159 #[.string s] w (yG (zi (zh s.data.toList) 10) w):=by
 have HP:=za (UC s w hs)
 generalize zh s.data.toList=b at *
 cases b with
 | false =>
  show Calls _ _ _ _ (yG 10 w)
  go_enter Tryz.func159,Tryz.ntmps159
  go_wp2_with fail
  with_reducible refine HP.out.mono ?_
  rintro e w1 ⟨rfl,hb⟩
  have HB:=za hb
  clear hb HP
  go_wp2
  go_ret
  exact ⟨rfl,HB.out⟩
 | true =>
  show Calls _ _ _ _ (yG 0 w)
  go_enter Tryz.func159,Tryz.ntmps159
  go_wp2_with fail
  with_reducible refine HP.out.mono ?_
  rintro e w1 ⟨rfl,hb⟩
  have HB:=za hb
  clear hb HP
  go_wp2
  go_ret
  exact ⟨rfl,HB.out⟩

set_option maxRecDepth 100000 in
theorem YJ (s:ByteArray) (w:World) (hs:s.size≤9223372036854775807) :
  Calls Tryz.prog 321 #[.string s] w (yG (zi (uM s.data.toList) 10) w):=by
 have HP:=za (Yv s w hs)
 generalize uM s.data.toList=b at *
 cases b with
 | false =>
  show Calls _ _ _ _ (yG 10 w)
  go_enter Tryz.func321,Tryz.ntmps321
  go_wp2_with fail
  with_reducible refine HP.out.mono ?_
  rintro e w1 ⟨rfl,hb⟩
  have HB:=za hb
  clear hb HP
  go_wp2
  go_ret
  exact ⟨rfl,HB.out⟩
 | true =>
  show Calls _ _ _ _ (yG 0 w)
  go_enter Tryz.func321,Tryz.ntmps321
  go_wp2_with fail
  with_reducible refine HP.out.mono ?_
  rintro e w1 ⟨rfl,hb⟩
  have HB:=za hb
  clear hb HP
  go_wp2
  go_ret
  exact ⟨rfl,HB.out⟩

set_option maxRecDepth 100000 in
theorem fh (s:ByteArray) (w:World) (hs:s.size≤9223372036854775807) :
  Calls Tryz.prog 210 #[.string s] w (yG (zi (yj s.data.toList) 4) w):=by
 have HP:=za (hash_calls s w hs)
 generalize yj s.data.toList=b at *
 cases b with
 | false =>
  show Calls _ _ _ _ (yG 4 w)
  go_enter Tryz.func210,Tryz.ntmps210
  go_wp2_with fail
  with_reducible refine HP.out.mono ?_
  rintro e w1 ⟨rfl,hb⟩
  have HB:=za hb
  clear hb HP
  go_wp2
  go_ret
  exact ⟨rfl,HB.out⟩
 | true =>
  show Calls _ _ _ _ (yG 0 w)
  go_enter Tryz.func210,Tryz.ntmps210
  go_wp2_with fail
  with_reducible refine HP.out.mono ?_
  rintro e w1 ⟨rfl,hb⟩
  have HB:=za hb
  clear hb HP
  go_wp2
  go_ret
  exact ⟨rfl,HB.out⟩

def Zs (x:UInt8):UInt8:=if inR 65 90 x then x+32 else x
def zN (l:List UInt8):List UInt8:=l.map Zs

theorem FJ {x:UInt8} (h:inR 65 90 x=true):((Zs x).toNat:Int)=(x.toNat:Int) - 65+97∧65≤x.toNat∧x.toNat≤90:=by
 have h2:65≤x.toNat∧x.toNat≤90:=by simpa [inR] using h
 refine ⟨?_,h2.1,h2.2⟩
 unfold Zs
 rw [if_pos h,UInt8.toNat_add]
 have:(32:UInt8).toNat=32:=rfl
 rw [this]
 omega
theorem fe {x:UInt8} (h:inR 65 90 x=false):Zs x=x:=by unfold Zs; rw [h]; simp

def Row5 (w:World) (B n:Nat) (f:Nat→UInt8):Prop :=
 B<w.heap.size∧∀ j,j<n→w.cell? ⟨B,j,none⟩=some (.int .u8 (f j).toNat)∧w.frozen? ⟨B,j,none⟩=false
theorem Row5.drewN {w:World} {B n:Nat} {f:Nat→UInt8} (h:Row5 w B n f) (q:Nat):Row5 (w.drewN q) B n f:=h
theorem Row5.set {w:World} {B n:Nat} {f:Nat→UInt8} (h:Row5 w B n f) (k:Nat) (hk:k<n) (x:Int) (y:UInt8) (hx:(y.toNat:Int)=x) :
  Row5 (w.setCell ⟨B,k,none⟩ (.int .u8 x)) B n (fun j=>if j=k then y else f j):=by
 refine ⟨by have:=h.1; simpa [World.setCell] using this,fun j hj=>⟨?_,?_⟩⟩
 ·
  by_cases e:j=k
  ·
   subst e
   simp only [if_true,hx]
   exact World.cell?_setCell_same _ _ _ (h.2 j hj).1
  ·
   rw [World.cell?_setCell_other _ _ _ _ (fun he=>e (by injection he with _ h2 _; exact h2.symm))]
   simp only [if_neg e]
   exact (h.2 j hj).1
 ·
  have:=(h.2 j hj).2
  simpa [World.frozen?_setCell] using this

theorem Row5.like {w:World} {B n:Nat} {f g:Nat→UInt8} (h:Row5 w B n f) (e:∀ j,f j=g j):Row5 w B n g:=(funext e:f=g) ▸ h

theorem row_new (w:World) (s:ByteArray) (cap:Nat) (t:TypeId) :
  Row5 (w.alloc (.cells (bytesRow s cap) t ((bytesRow s cap).size,(bytesRow s cap).size+1))) w.heap.size s.size (fun j=>s.data.toList.getD j 0):=by
 refine ⟨by simp,fun j hj=>⟨?_,?_⟩⟩
 ·
  rw [World.cell?_alloc_mark]
  have hj':j<s.data.size:=hj
  simp only [bytesRow,Array.getElem?_append,Array.size_map]
  rw [if_pos hj',Array.getElem?_map,Array.getElem?_eq_getElem hj']
  simp only [List.getD,Array.getElem?_toList,Array.getElem?_eq_getElem hj',Option.getD_some,Option.map_some]
 ·
  rw [World.frozen?_alloc_mark]
  have:s.size≤(bytesRow s cap).size:=by
   have:(bytesRow s cap).size=s.data.size+(cap - s.size):=by simp [bytesRow]
   have e:s.data.size=s.size:=rfl
   omega
  simp only [Bool.and_eq_false_iff,decide_eq_false_iff_not]
  left; omega

theorem row_string {w:World} {B n cap:Nat} {f:Nat→UInt8} (h:Row5 w B n f) :
  (convert 62 9 (.slice (some ⟨B,0,none⟩) n cap)).run Tryz.prog w=.ok (.string ⟨((List.range n).map f).toArray⟩) w:=by
 have hr:Rd w (.slice (some ⟨B,0,none⟩) n cap) ((List.range n).map f):=by
  refine ⟨some ⟨B,0,none⟩,cap,by simp,fun _=>⟨_,rfl,h.1,fun j u hu=>?_⟩⟩
  have hadd:(⟨B,0,none⟩:Addr).add j=⟨B,j,none⟩:=by unfold Addr.add; split <;> simp_all
  have hj:j<n:=by
   have:=(List.getElem?_eq_some_iff.1 hu).1
   simpa [qI] using this
  rw [hadd,(h.2 j hj).1]
  simp [cellsOf,hj] at hu
  rw [← hu]
 exact hr.string Tryz.underlying62 Tryz.underlying5 Tryz.underlying9

set_option maxRecDepth 100000 in
theorem fold_calls (s:ByteArray) (w:World) (hs:s.size≤9223372036854775807) :
  Calls Tryz.prog 244 #[.string s] w fun e w'=>e=.returned (.string ⟨(zN s.data.toList).toArray⟩)∧Below w.heap.size w w':=by
 obtain ⟨r,hr⟩:∃ r,r=(⟨(zN s.data.toList).toArray⟩:ByteArray):=⟨_,rfl⟩
 rw [← hr]
 have HR:=za hr
 clear hr
 have HC:=za (uR 65 90 65 90 rfl rfl w)
 have HS:=za hs
 generalize hn:s.size=n at *
 have HN:=za hn
 go_enter Tryz.func244,Tryz.ntmps244
 go_wp2_with fail
 with_reducible refine HC.out.mono ?_
 rintro e w1 ⟨g,lb,rfl,ha,hb⟩
 have HB1:=za hb
 have HA:=za ha
 clear ha hb HC
 have hcv:=run_bytes_of_string (P:=Tryz.prog) w1 9 62 5 s Tryz.underlying9 Tryz.underlying62 Tryz.underlying5
 rw [hn] at hcv
 have hro:=row_new w1.drew s (grownCap w1 n 0 5) 5
 rw [hn] at hro
 generalize grownCap w1 n 0 5=cap at hcv hro
 have hb2:=zb (zQ (Below.refl w1.heap.size w1)) (.cells (bytesRow s cap) 5 ((bytesRow s cap).size,(bytesRow s cap).size+1))
 have HZ:=za (show w1.heap.size<(w1.drew.alloc (.cells (bytesRow s cap) 5 ((bytesRow s cap).size,(bytesRow s cap).size+1))).heap.size by simp)
 generalize w1.drew.alloc (.cells (bytesRow s cap) 5 ((bytesRow s cap).size,(bytesRow s cap).size+1))=w2 at *
 have HRO:=za hro
 have HB2:=za hb2
 clear hro hb2 hn
 generalize hB:w1.heap.size=B at *
 have HBe:=za hB
 clear hB
 generalize hf0:(fun j=>s.data.toList.getD j 0)=f0 at *
 have HF0:=za hf0
 clear hf0
 have HRO':Hid (Row5 w2 B n f0):=HBe.out ▸ HRO.out
 have HB2':Hid (Below w1.heap.size w1 w2):=HBe.out ▸ HB2.out
 clear HRO HB2
 go_wp2
 go_loopg [5,6,12] n (fun gg _ _ s12 wr=>∃ k:Nat,k≤n∧n - k≤gg∧s12=.int .i64 k∧Hid (Row5 wr B n (fun j=>if j<k then Zs (f0 j) else f0 j))∧Hid (Below w1.heap.size w1 wr))
 case atStart=>exact ⟨0,Nat.zero_le _,by omega,rfl,by simpa using HRO',HB2'⟩
 case round =>
  obtain ⟨k,hk,hg,rfl,HR1,HW⟩:=hrel
  by_cases hlt:k<n
  ·
   have hltz:(k:Int)<(n:Int):=by omega
   have hcell:=(HR1.out.2 k hlt).1
   have hfz:=(HR1.out.2 k hlt).2
   simp only [Nat.lt_irrefl,if_false] at hcell
   cases hq:inR 65 90 (f0 k) with
   | true =>
    obtain ⟨e1,e2,e3⟩:=FJ hq
    obtain ⟨eg,hc⟩:=(HA.out.later HW.out).at_ (f0 k) _ rfl _ hq
    have HC0:=za hc
    have HY:Hid (∀ q,Row5 ((wr.drewN q).setCell ⟨B,k,none⟩ (.int .u8 ((f0 k).toNat - 65+97))) B n (fun j=>if j<k+1 then Zs (f0 j) else f0 j)):=fun q=>by
     have:=(HR1.out.drewN q).set k hlt _ (Zs (f0 k)) e1
     refine this.like fun j=>?_
     by_cases h1:j=k
     ·
      subst h1; simp
     ·
      by_cases h2:j<k
      ·
       simp [h1,h2,Nat.lt_succ_of_lt h2]
      ·
       have:¬ j<k+1:=by omega
       simp [h1,h2,this]
    have HWB:Hid (∀ q v,Below w1.heap.size w1 ((wr.drewN q).setCell ⟨B,k,none⟩ v)):=fun q v=>(zJ HW.out q).setCell (p:=⟨B,k,none⟩) (by rw [HBe.out]; exact Nat.le_refl _) v
    clear hc hq e1
    generalize ((f0 k).toNat:Nat)=x at *
    have z1:IntKind.u8.wrap ((x:Int) - 65)=(x:Int) - 65:=by unfold IntKind.wrap; simp [IntKind.bits,IntKind.signed]; omega
    have z2:IntKind.u8.wrap ((x:Int) - 65+97)=(x:Int) - 65+97:=by unfold IntKind.wrap; simp [IntKind.bits,IntKind.signed]; omega
    go_wp2_with (go_at_fn g; refine HC0.out.mono ?_; rintro e w4 ⟨rfl,q,rfl⟩)
    go_roundg (n - (k+1))
    case measure=>omega
    case rel=>exact ⟨k+1,by omega,by omega,by go_num,HY.out q,HWB.out q _⟩
   | false =>
    obtain ⟨eg,hc⟩:=(HA.out.later HW.out).at_ (f0 k) _ rfl _ hq
    have HC0:=za hc
    have HY:Hid (Row5 wr B n (fun j=>if j<k+1 then Zs (f0 j) else f0 j)):=by
     refine HR1.out.like fun j=>?_
     by_cases h1:j=k
     ·
      subst h1; simp [fe hq]
     ·
      by_cases h2:j<k
      ·
       simp [h2,Nat.lt_succ_of_lt h2]
      ·
       have:¬ j<k+1:=by omega
       simp [h2,this]
    clear hc hq
    generalize ((f0 k).toNat:Nat)=x at *
    go_wp2_with (go_at_fn g; refine HC0.out.mono ?_; rintro e w4 ⟨rfl,q,rfl⟩)
    go_roundg (n - (k+1))
    case measure=>omega
    case rel=>exact ⟨k+1,by omega,by omega,by go_num,HY,zJ HW.out q⟩
  ·
   have hltz:¬ (k:Int)<(n:Int):=by omega
   obtain rfl:k=n:=by omega
   have hst:=row_string (cap:=cap) HR1.out
   have he:(⟨((List.range k).map fun j=>if j<k then Zs (f0 j) else f0 j).toArray⟩:ByteArray)=r:=by
    rw [HR.out]
    congr 2
    unfold zN
    have hl:s.data.toList.length=k:=by rw [zx]; exact HN.out
    apply List.ext_getElem (by simp [hl])
    intro j h1 h2
    have hj:j<k:=by simpa using h1
    have hjs:j<s.data.size:=by have:=HN.out; rw [← this] at hj; exact hj
    simp only [List.getElem_map,List.getElem_range,if_pos hj,← HF0.out]
    simp only [List.getD,Array.getElem?_toList,Array.getElem?_eq_getElem hjs,Option.getD_some,Array.getElem_toList]
   rw [he] at hst
   clear he
   have HW':=za (z7 HB1.out HW.out)
   clear HW
   go_wp2
   go_ret
   exact ⟨rfl,HW'.out⟩
end Go.Proofs.YteegkoicalbkbaaGreatDoor
namespace Go.Proofs.YteegkoicalbkbaaGreatDoor

def qu (c:UInt8):List UInt8→List (List UInt8)
 | []=>[[]]
 | x::l=>if x=c then []::qu c l else (x::(qu c l).headD [])::(qu c l).tail


theorem UA (c:UInt8):∀ l:List UInt8,(Lib.indexByte l c=-1→qu c l=[l]) ∧
  (∀ i:Nat,Lib.indexByte l c=i→qu c l=l.take i::qu c (l.drop (i+1)))
 | []=>⟨fun _=>rfl,fun i h=>by simp [Lib.indexByte] at h⟩
 | x::l=>by
  obtain ⟨h1,h2⟩:=UA c l
  have hg:=Lib.indexByte_ge l c
  unfold Lib.indexByte
  by_cases e:x=c
  ·
   subst e
   refine ⟨fun h=>by simp at h,fun i h=>?_⟩
   simp at h
   obtain rfl:i=0:=by omega
   simp [qu]
  ·
   have e':(x == c)=false:=by simpa using e
   rw [e']
   by_cases hm:Lib.indexByte l c=-1
   ·
    refine ⟨fun _=>?_,fun i h=>by simp [hm] at h⟩
    simp [qu,e,h1 hm]
   ·
    have hm':(Lib.indexByte l c == -1)=false:=by simpa using hm
    rw [hm']
    refine ⟨fun h=>by simp at h; omega,fun i h=>?_⟩
    simp at h
    obtain ⟨j,hj⟩:=Int.eq_ofNat_of_zero_le (show 0≤Lib.indexByte l c by omega)
    obtain rfl:i=j+1:=by omega
    simp [qu,e,h2 j hj]

theorem Xj (c:UInt8):∀ (n:Nat) (l:List UInt8),l.length≤n→Lib.splitK [c] 0 (Lib.count l [c]) l=qu c l
 | n,l,hn=>by
  obtain ⟨h1,h2⟩:=UA c l
  have hi:=Lib.index_one l c
  by_cases hm:Lib.indexByte l c=-1
  ·
   rw [Lib.count_miss (hi.trans hm),h1 hm]; rfl
  ·
   have hg:=Lib.indexByte_ge l c
   obtain ⟨i,hj⟩:=Int.eq_ofNat_of_zero_le (show 0≤Lib.indexByte l c by omega)
   have hr:=Lib.index_room l [c] (by rw [hi,hj]; omega)
   rw [hi,hj] at hr
   simp at hr
   cases n with
   | zero=>omega
   | succ n =>
    have hc:Lib.count l [c]=1+Lib.count (l.drop (i+1)) [c]:=by
     have:=Lib.count_hit (s:=l) (sub:=[c]) (i:=i) (by simp) (hi.trans hj)
     simpa using this
    rw [hc,Nat.add_comm,h2 i hj,← Xj c n (l.drop (i+1)) (by simp; omega)]
    have hne:(Lib.index l [c] == -1)=false:=by rw [hi,hj]; simp
    rw [Lib.splitK,hne]
    simp [hi,hj]

def labP5 (p:UInt8→Bool) (l:List UInt8):Bool:=decide (1≤l.length) && l.all p
def dom5 (p:UInt8→Bool) (l:List UInt8):Bool:=(qu 46 l).all (labP5 p) && decide (2≤(qu 46 l).length)



end Go.Proofs.YteegkoicalbkbaaGreatDoor
namespace Go.Proofs.YteegkoicalbkbaaGreatDoor
open Go.RowKit

def vY (w:World):Prop:=1<w.heap.size∧∃ m,w.cell? ⟨1,0,none⟩=some (.int .i64 m)
theorem vY.later {w W:World} (h:vY w) (hb:Below w.heap.size w W):vY W :=
 ⟨Nat.lt_of_lt_of_le h.1 hb.size,by obtain ⟨m,hm⟩:=h.2; exact ⟨m,(hb.cell (p:=⟨1,0,none⟩) h.1).trans hm⟩⟩

def lab5 (l:List UInt8):Bool:=labP5 qo l

theorem dom_pieces (s:ByteArray):dom5 qo s.data.toList =
  ((Lib.splitB ⟨#[46]⟩ 0 (Lib.countB s ⟨#[46]⟩) s).all (fun x=>lab5 x.data.toList) && decide (2≤Lib.countB s ⟨#[46]⟩+1)):=by
 have h1:=Lib.splitB_data ⟨#[46]⟩ 0 (Lib.countB s ⟨#[46]⟩) s
 have h2:Lib.splitK [46] 0 (Lib.count s.data.toList [46]) s.data.toList=qu 46 s.data.toList:=Xj 46 _ _ (Nat.le_refl _)
 have h3:(Lib.splitB ⟨#[46]⟩ 0 (Lib.countB s ⟨#[46]⟩) s).map (·.data.toList)=qu 46 s.data.toList:=h1.trans h2
 have h4:=Lib.splitB_all ⟨#[46]⟩ (by decide) 0 (Lib.countB s ⟨#[46]⟩) s rfl
 unfold dom5
 rw [← h3,← h4]
 simp [List.all_map,Function.comp_def,lab5]

theorem Uz (sep:ByteArray):∀ (k:Nat) (s:ByteArray) (x:ByteArray),x∈Lib.splitB sep 0 k s→x.size≤s.size
 | 0,s,x,h=>by simp [Lib.splitB] at h; subst h; exact Nat.le_refl _
 | k+1,s,x,h=>by
  unfold Lib.splitB at h
  split at h
  ·
   simp at h; subst h; exact Nat.le_refl _
  ·
   rcases List.mem_cons.1 h with rfl | h
   ·
    simp; exact Nat.min_le_right _ _
   ·
    have:=Uz sep k _ x h
    have e:(s.extract ((Lib.indexB s sep).toNat+sep.size) s.size).size≤s.size:=by simp
    omega

theorem piece_cell (w:World) (l:List ByteArray) (t:TypeId) (j:Nat) (hj:j<l.length) :
  (w.alloc (.cells (l.map Value.string).toArray t)).cell? ⟨w.heap.size,j,none⟩=some (.string l[j]):=by
 rw [World.cell?_alloc_at _ _ _ _ rfl]
 simp [hj]

set_option maxRecDepth 100000 in
theorem FS (s:ByteArray) (w:World) (hs:s.size≤1000) (hm:vY w) :
  Calls Tryz.prog 246 #[.string s] w (yL (dom5 qo s.data.toList) w):=by
 rw [dom_pieces]
 have hle:=Lib.countB_le ⟨#[46]⟩ (by decide) s.size s (Nat.le_refl _)
 have hlen:=Lib.splitB_all ⟨#[46]⟩ (by decide) 0 (Lib.countB s ⟨#[46]⟩) s rfl
 obtain ⟨h0,m,hm⟩:=hm
 have HC:=za (Tryz.strings_Split s ⟨#[46]⟩ m w (by omega) hm (by decide))
 have HPS:Hid (∀ x∈Lib.splitB ⟨#[46]⟩ 0 (Lib.countB s ⟨#[46]⟩) s,x.size≤1000):=fun x hx=>Nat.le_trans (Uz _ _ _ x hx) hs
 generalize Lib.splitB ⟨#[46]⟩ 0 (Lib.countB s ⟨#[46]⟩) s=ps at *
 generalize hcn:Lib.countB s ⟨#[46]⟩+1=n at *
 have hn:n≤1001:=by omega
 have hpc:=piece_cell w ps 9
 have hb1:=zb (Below.refl w.heap.size w) (.cells (ps.map Value.string).toArray 9)
 have hB:w.heap.size<(w.alloc (.cells (ps.map Value.string).toArray 9)).heap.size:=by simp
 generalize w.alloc (.cells (ps.map Value.string).toArray 9)=w1 at *
 generalize hBB:w.heap.size=B at HC hpc hB
 have HPC:=za hpc
 have HB1:=za hb1
 have HB:=za hB
 have HL:=za hlen
 obtain ⟨r,hr⟩:∃ r,r=(ps.all (fun x=>lab5 x.data.toList) && decide (2≤n)):=⟨_,rfl⟩
 rw [← hr]
 have HR:=za hr
 clear hpc hb1 hB hlen hcn hm h0 hle hBB hr
 go_enter Tryz.func246,Tryz.ntmps246
 go_wp2_with fail
 with_reducible refine HC.out.mono ?_
 rintro e w1' ⟨rfl,rfl⟩
 clear HC
 go_wp2
 go_loopg [5,10] n (fun gg _ s10 wr=>∃ k:Nat,k≤n∧n - k≤gg∧s10=.int .i64 k∧Hid (Below w1'.heap.size w1' wr)∧Hid (∀ j (h:j<ps.length),j<k→lab5 ps[j].data.toList=true))
 case atStart=>exact ⟨0,Nat.zero_le _,by omega,rfl,Below.refl _ _,fun j _ hj=>absurd hj (Nat.not_lt_zero _)⟩
 case round =>
  obtain ⟨k,hk,hg,rfl,HW,A⟩:=hrel
  by_cases hlt:k<n
  ·
   have hltz:(k:Int)<(n:Int):=by omega
   have hkl:k<ps.length:=by rw [HL.out]; exact hlt
   have hcell:=(HW.out.cell (p:=⟨B,k,none⟩) HB.out).trans (HPC.out k hkl)
   have hsz:=HPS.out ps[k] (List.getElem_mem hkl)
   have HLB:Hid (lab5 ps[k].data.toList=(decide (1≤ps[k].size) && ps[k].data.toList.all qo)):=by
    show labP5 qo _=_
    unfold labP5
    rw [zx]
   have HM:=za (List.getElem_mem hkl)
   have HA2:Hid (lab5 ps[k].data.toList=true→∀ j (h:j<ps.length),j<k+1→lab5 ps[j].data.toList=true):=fun hl j h hj=>by
    by_cases e:j=k
    ·
     subst e; exact hl
    ·
     exact A.out j h (by omega)
   generalize ps[k]=x at *
   have HF:Hid (lab5 x.data.toList=false→r=false):=fun hf=>by
    rw [HR.out]
    have:ps.all (fun x=>lab5 x.data.toList)=false:=List.all_eq_false.2 ⟨x,HM.out,by rw [hf]; simp⟩
    rw [this]; rfl
   have HBW:=za (z7 HB1.out HW.out)
   by_cases h0:x.size=0
   ·
    have hne:x.toList=[]:=by
     have:x.toList.length=0:=by rw [ByteArray.toList_eq,zx]; exact h0
     exact List.eq_nil_of_length_eq_zero this
    have hrf:r=false:=HF.out (by rw [HLB.out,h0]; rfl)
    subst hrf
    clear HF
    go_wp2
    go_ret
    exact ⟨rfl,HBW.out⟩
   ·
    have hne:¬ x.toList=[]:=fun e=>h0 (by rw [← zx,← ByteArray.toList_eq,e]; rfl)
    have hne2:x.toList.isEmpty=false:=by simpa using hne
    have hlb:lab5 x.data.toList=x.data.toList.all qo:=by rw [HLB.out,decide_eq_true (by omega:1≤x.size),Bool.true_and]
    have HD:=za (Yf wr)
    have HV:Hid (∀ g lb w,Vu (.func (.func g) #[] lb) qo w→Calls Tryz.prog 233 #[.string x,.func (.func g) #[] lb] w fun e w'=>e=.returned (.bool (x.data.toList.all qo))∧∃ q,w'=w.drewN q) :=
     fun g lb w ha=>fO x g lb qo w (by omega) ha
    rw [← hlb] at HV
    have HW2:Hid (∀ w2 q,Below wr.heap.size wr w2→Below w1'.heap.size w1' (w2.drewN q)):=fun w2 q hb=>zJ (z7 HW.out hb) q
    have HBW2:Hid (∀ w2 q,Below wr.heap.size wr w2→Below w.heap.size w (w2.drewN q)):=fun w2 q hb=>zJ (z7 HBW.out hb) q
    clear HLB hlb h0 HW HBW
    cases hq:lab5 x.data.toList with
    | true =>
     rw [hq] at HV
     have HX:=za (HA2.out hq)
     clear hq HF HA2 HBW2
     go_wp2_with fail
     with_reducible refine HD.out.mono ?_
     rintro e w2 ⟨g,lb,rfl,ha,hb⟩
     have HE:=za (HV.out g lb w2 ha)
     have HB2:=za hb
     clear ha hb HV HD
     go_wp2_with (go_at_call 233; with_reducible refine HE.out.mono ?_; rintro e w3 ⟨rfl,q,rfl⟩)
     go_roundg (n - (k+1))
     case measure=>omega
     case rel=>exact ⟨k+1,by omega,by omega,by go_num,HW2.out _ _ HB2.out,HX⟩
    | false =>
     rw [hq] at HV
     have hrf:r=false:=HF.out hq
     subst hrf
     clear hq HF HA2 HW2
     go_wp2_with fail
     with_reducible refine HD.out.mono ?_
     rintro e w2 ⟨g,lb,rfl,ha,hb⟩
     have HE:=za (HV.out g lb w2 ha)
     have HB2:=za hb
     clear ha hb HV HD
     go_wp2_with (go_at_call 233; with_reducible refine HE.out.mono ?_; rintro e w3 ⟨rfl,q,rfl⟩)
     go_ret
     exact ⟨rfl,HBW2.out _ _ HB2.out⟩
  ·
   have hltz:¬ (k:Int)<(n:Int):=by omega
   obtain rfl:k=n:=by omega
   have hra:r=decide ((k:Int) ≥ 2):=by
    rw [HR.out]
    have:ps.all (fun x=>lab5 x.data.toList)=true:=by
     rw [List.all_eq_true]
     intro x hx
     obtain ⟨j,hj,rfl⟩:=List.getElem_of_mem hx
     exact A.out j hj (by have:=HL.out; omega)
    rw [this,Bool.true_and]
    by_cases h2:2≤k
    ·
     rw [decide_eq_true h2,decide_eq_true (by omega)]
    ·
     rw [decide_eq_false h2,decide_eq_false (by omega)]
   have HBW:=za (z7 HB1.out HW.out)
   have HRA:=za hra
   clear hra HW
   go_wp2
   go_ret
   exact ⟨by rw [HRA.out]; rfl,HBW.out⟩

def Jg (l:List UInt8):List UInt8×List UInt8×Bool:=Lib.cut (zN l) [64]
def ve (l:List UInt8):Bool:=decide (l.length≤20) && (Jg l).2.2 && zh (Jg l).1 && dom5 qo (Jg l).2.1
def fJ (l:List UInt8):ByteArray:=if ve l then ⟨(zN l).toArray⟩ else ⟨#[]⟩
def Mails5 (b:Bool) (t:ByteArray) (w:World) (e:Ending) (w':World):Prop:=e=.returned (.tuple #[.string t,.int .i64 (zi b 11)])∧Below w.heap.size w w'

theorem uv (l:List UInt8):(zN l).length=l.length:=by simp [zN]

theorem cut_lengths (l sep:List UInt8):(Lib.cut l sep).1.length≤l.length∧(Lib.cut l sep).2.1.length≤l.length:=by
 unfold Lib.cut
 split <;> simp
 exact Nat.min_le_right _ _

set_option maxRecDepth 100000 in
theorem fa (s:ByteArray) (w:World) (hs:s.size≤9223372036854775807) (hm:vY w) :
  Calls Tryz.prog 231 #[.string s] w (Mails5 (ve s.data.toList) (fJ s.data.toList) w):=by
 by_cases h20:s.size≤20
 ·
  have hm1:ve s.data.toList=((Jg s.data.toList).2.2 && zh (Jg s.data.toList).1 && dom5 qo (Jg s.data.toList).2.1):=by
   unfold ve
   rw [zx,decide_eq_true h20,Bool.true_and]
  have hfl:(zN s.data.toList).length=s.size:=by rw [uv,zx]
  have hl:=cut_lengths (zN s.data.toList) [64]
  rw [hfl] at hl
  have HF:=za (fold_calls s w hs)
  have HCT:Hid (∀ w,vY w→Calls Tryz.prog 245 #[.string ⟨(zN s.data.toList).toArray⟩,.string ⟨#[64]⟩] w fun e w'=>e=.returned (.tuple #[.string ⟨(Jg s.data.toList).1.toArray⟩,.string ⟨(Jg s.data.toList).2.1.toArray⟩,.bool (Jg s.data.toList).2.2])∧∃ n,w'=w.drewN n):=fun w h=>by
   obtain ⟨m,hm⟩:=h.2
   have:=Tryz.strings_Cut ⟨(zN s.data.toList).toArray⟩ ⟨#[64]⟩ m w (by show (zN s.data.toList).toArray.size<_; rw [List.size_toArray,hfl]; omega) hm
   exact this
  have HNM:Hid (∀ w,Calls Tryz.prog 196 #[.string ⟨(Jg s.data.toList).1.toArray⟩] w (yL (zh (Jg s.data.toList).1) w)):=fun w =>
   UC ⟨(Jg s.data.toList).1.toArray⟩ w (by show (Jg s.data.toList).1.toArray.size≤_; rw [List.size_toArray]; exact Nat.le_trans hl.1 (by omega))
  have HDM:Hid (∀ w,vY w→Calls Tryz.prog 246 #[.string ⟨(Jg s.data.toList).2.1.toArray⟩] w (yL (dom5 qo (Jg s.data.toList).2.1) w)):=fun w h =>
   FS ⟨(Jg s.data.toList).2.1.toArray⟩ w (by show (Jg s.data.toList).2.1.toArray.size≤_; rw [List.size_toArray]; exact Nat.le_trans hl.2 (by omega)) h
  unfold fJ
  rw [hm1]
  have HM:=za hm
  clear hm hl hfl hm1
  generalize (⟨(zN s.data.toList).toArray⟩:ByteArray)=f at *
  generalize Jg s.data.toList=c at *
  obtain ⟨c1,c2,b⟩:=c
  simp only at HCT HNM HDM ⊢
  generalize (⟨c1.toArray⟩:ByteArray)=t1 at *
  generalize (⟨c2.toArray⟩:ByteArray)=t2 at *
  generalize zh c1=bn at *
  generalize dom5 qo c2=bd at *
  generalize hn:s.size=n at *
  have z:¬ (n:Int) > 20:=by omega
  have z':¬ 20<n:=by omega
  obtain ⟨r,hr⟩:∃ r:Bool,r=(b && bn && bd):=⟨_,rfl⟩
  obtain ⟨rt,hrt⟩:∃ rt:ByteArray,rt=if (b && bn && bd)=true then f else ⟨#[]⟩:=⟨_,rfl⟩
  rw [← hrt,← hr]
  have HR:=za hr
  have HRT:=za hrt
  clear hr hrt
  go_enter Tryz.func231,Tryz.ntmps231
  go_wp2_with fail
  with_reducible refine HF.out.mono ?_
  rintro e w1 ⟨rfl,hb⟩
  have HB1:=za hb
  have HC1:=za (HCT.out w1 (HM.out.later hb))
  have HM1:=za (HM.out.later hb)
  clear hb HF HCT
  go_wp2_with fail
  with_reducible refine HC1.out.mono ?_
  rintro e w2 ⟨rfl,q,rfl⟩
  have HB2:=za (zJ HB1.out q)
  have HM2:=za (HM1.out.later (zJ (Below.refl w1.heap.size w1) q))
  generalize w1.drewN q=w2 at *
  clear HC1 HB1 HM1
  cases b with
  | false =>
   have hr:r=false:=HR.out
   have hrt:rt=⟨#[]⟩:=HRT.out
   subst hr; subst hrt
   go_wp2
   go_ret2; exact ⟨rfl,HB2.out⟩
  | true =>
   have HN2:=za (HNM.out w2)
   cases bn with
   | false =>
    have hr:r=false:=HR.out
    have hrt:rt=⟨#[]⟩:=HRT.out
    subst hr; subst hrt
    go_wp2_with fail
    with_reducible refine HN2.out.mono ?_
    rintro e w3 ⟨rfl,hb⟩
    have HB3:=za (z7 HB2.out hb)
    clear hb
    go_wp2
    go_ret2; exact ⟨rfl,HB3.out⟩
   | true =>
    go_wp2_with fail
    with_reducible refine HN2.out.mono ?_
    rintro e w3 ⟨rfl,hb⟩
    have HB3:=za (z7 HB2.out hb)
    have HD3:=za (HDM.out w3 (HM2.out.later hb))
    clear hb HN2 HDM HNM
    go_wp2_with fail
    with_reducible refine HD3.out.mono ?_
    rintro e w4 ⟨rfl,hb⟩
    have HB4:=za (z7 HB3.out hb)
    clear hb
    cases bd with
    | false =>
     have hr:r=false:=HR.out
     have hrt:rt=⟨#[]⟩:=HRT.out
     subst hr; subst hrt
     go_wp2
     go_ret2; exact ⟨rfl,HB4.out⟩
    | true =>
     have hr:r=true:=HR.out
     have hrt:rt=f:=HRT.out
     subst hr; subst hrt
     go_wp2
     go_ret2; exact ⟨rfl,HB4.out⟩
 ·
  have hm1:ve s.data.toList=false:=by
   unfold ve
   rw [zx,decide_eq_false h20]; rfl
  have hm2:fJ s.data.toList=⟨#[]⟩:=by unfold fJ; rw [hm1]; rfl
  rw [hm1,hm2]
  clear hm1 hm2 hm
  generalize hn:s.size=n at *
  have z:(n:Int) > 20:=by omega
  have z':20<n:=by omega
  go_enter Tryz.func231,Tryz.ntmps231
  go_wp2
  go_ret2; exact ⟨rfl,Below.refl _ _⟩

set_option maxRecDepth 100000 in
theorem jg (a b:ByteArray) (w:World) :
  Calls Tryz.prog 188 #[.string a,.string b] w fun e w'=>e=.returned (.int .i64 (Lib.compareBytes a.data.toList b.data.toList))∧w'=w:=by
 have HC:=za (Tryz.strings_Compare a b w)
 generalize Lib.compareBytes a.data.toList b.data.toList=r at *
 go_enter Tryz.func188,Tryz.ntmps188
 go_wp2_with fail
 with_reducible refine HC.out.mono ?_
 rintro e w1 ⟨rfl,rfl⟩
 go_wp2
 go_ret
 exact ⟨rfl,rfl⟩
end Go.Proofs.YteegkoicalbkbaaGreatDoor
namespace Go.Proofs.YteegkoicalbkbaaGreatDoor
open Go


theorem len5_of {W:World} (h:W.ShapedOpen Tryz.prog):vY W:=by
 obtain ⟨m,hm⟩:=cell_of_shapedOpen_int (P:=Tryz.prog) (g:=1) (t:=3) (zero:=#[.int .i64 0]) (k:=.i64) h (of_decide_eq_true (by kernel_rfl)) (by kernel_rfl) rfl (by kernel_rfl) (by kernel_rfl) Tryz.underlying3
 refine ⟨?_,m,hm⟩
 by_cases hl:1<W.heap.size
 ·
  exact hl
 ·
  exfalso
  have hn:W.heap[1]? = none:=Array.getElem?_eq_none (by omega)
  simp [World.cell?,hn] at hm
end Go.Proofs.YteegkoicalbkbaaGreatDoor
namespace Go.Proofs.YteegkoicalbkbaaGreatDoor
open Go.RowKit






end Go.Proofs.YteegkoicalbkbaaGreatDoor
