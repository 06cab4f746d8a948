/-
  The texts that the laws of this seat share, part 5: what the code and the document's own answers tell, walked function by function.
  Conditions: each theorem's own.
-/
import Derived.Shelf.SlIter.Collect
import Derived.Laws.Cover1
import Derived.Test.YteegkoicalbkbaaGreatDoorHosOBD
set_option maxHeartbeats 16000000
namespace Go.Proofs.YteegkoicalbkbaaGreatDoor
open Go.Maps

structure yo (L M:zl):Prop where
 rl:uy L
 rm:uy M
 iff:∀ n a,(n,a)∈L↔(a,n)∈M

def YQ (L:zl) (a:List UInt8):Bool:=L.any (fun p=>p.2 == a)
def Vy (L:zl) (a:List UInt8):List UInt8:=match L.find? (fun p=>p.2 == a) with | some p=>p.1 | none=>[]

theorem Qp {L:zl} (h:uy L) {n a b:List UInt8} (ha:(n,a)∈L) (hb:(n,b)∈L):a=b:=by
 have h1:=jG h ha
 have h2:=jG h hb
 exact h1.symm.trans h2
theorem vm {L:zl} {n:List UInt8} (h:yE L n=true):(n,yM L n)∈L:=by
 unfold yE at h
 unfold yM
 obtain ⟨p,hp,e⟩:=List.any_eq_true.1 h
 cases hf:L.find? (fun p=>p.1 == n) with
 | none=>exact absurd e (by simpa using List.find?_eq_none.1 hf p hp)
 | some q =>
  have h1:=List.mem_of_find?_eq_some hf
  have h2:=List.find?_some hf
  have:q.1=n:=by simpa using h2
  rw [← this]; exact h1
theorem QJ {L:zl} {n a:List UInt8} (h:(n,a)∈L):yE L n=true:=xW.2 ⟨_,h,rfl⟩
theorem xm {L:zl} {n:List UInt8} (h:yE L n=false):yM L n=[]:=by
 unfold yM
 cases hf:L.find? (fun p=>p.1 == n) with
 | none=>rfl
 | some q =>
  have h1:=List.mem_of_find?_eq_some hf
  have h2:=List.find?_some hf
  have:yE L n=true:=xW.2 ⟨q,h1,by simpa using h2⟩
  rw [h] at this; cases this
theorem jc {L:zl} {a:List UInt8} (h:YQ L a=true):(Vy L a,a)∈L:=by
 unfold YQ at h
 unfold Vy
 obtain ⟨p,hp,e⟩:=List.any_eq_true.1 h
 cases hf:L.find? (fun p=>p.2 == a) with
 | none=>exact absurd e (by simpa using List.find?_eq_none.1 hf p hp)
 | some q =>
  have h1:=List.mem_of_find?_eq_some hf
  have h2:=List.find?_some hf
  have:q.2=a:=by simpa using h2
  rw [← this]; exact h1
theorem Ze {L:zl} {n a:List UInt8} (h:(n,a)∈L):YQ L a=true:=List.any_eq_true.2 ⟨_,h,by simp⟩
theorem JY {L:zl} {a:List UInt8} (h:YQ L a=false):Vy L a=[]:=by
 unfold Vy
 cases hf:L.find? (fun p=>p.2 == a) with
 | none=>rfl
 | some q =>
  have h1:=List.mem_of_find?_eq_some hf
  have h2:=List.find?_some hf
  have:YQ L a=true:=List.any_eq_true.2 ⟨q,h1,h2⟩
  rw [h] at this; cases this

theorem vA {L:zl} {k v:List UInt8} {q:List UInt8×List UInt8}:q∈vl L k v↔q=(k,v)∨q∈L∧q.1≠k:=by
 unfold vl
 rw [ZY,yC]
theorem rise_ext {L M:zl} (hl:uy L) (hm:uy M) (h:∀ q,q∈L↔q∈M):L=M:=by
 have hnl:L.Nodup:=hl.imp fun {a b} hb e=>by subst e; rw [zA] at hb; cases hb
 have hnm:M.Nodup:=hm.imp fun {a b} hb e=>by subst e; rw [zA] at hb; cases hb
 have hp:L.Perm M:=(List.perm_ext_iff_of_nodup hnl hnm).2 h
 refine List.Perm.eq_of_pairwise (le:=fun (p q:List UInt8×List UInt8)=>bytesBefore p.1 q.1=true) ?_ hl hm hp
 intro a b _ _ h1 h2
 rw [vF h1] at h2; cases h2

section
variable {L M:zl}
theorem yo.nil:yo [] []:=⟨List.Pairwise.nil,List.Pairwise.nil,by simp⟩
theorem yo.length (h:yo L M):M.length=L.length:=by
 have hnl:L.Nodup:=h.rl.imp fun {a b} hb e=>by subst e; rw [zA] at hb; cases hb
 have hnm:M.Nodup:=h.rm.imp fun {a b} hb e=>by subst e; rw [zA] at hb; cases hb
 have hn2:(L.map fun p=>(p.2,p.1)).Nodup:=by
  unfold List.Nodup
  rw [List.pairwise_map]
  refine hnl.imp fun {a b} hb e=>hb ?_
  injection e with e1 e2
  exact Prod.ext e2 e1
 have:(L.map fun p=>(p.2,p.1)).Perm M:=(List.perm_ext_iff_of_nodup hn2 hnm).2 fun q=>by
  rw [List.mem_map]
  constructor
  ·
   rintro ⟨p,hp,rfl⟩
   exact (h.iff p.1 p.2).1 hp
  ·
   intro hq
   exact ⟨(q.2,q.1),(h.iff q.2 q.1).2 hq,rfl⟩
 have:=this.length_eq
 rw [List.length_map] at this
 exact this.symm
theorem yo.has (h:yo L M) (a:List UInt8):yE M a=YQ L a:=by
 cases hh:YQ L a
 ·
  cases hm:yE M a
  ·
   rfl
  ·
   have:=Ze ((h.iff _ _).2 (vm hm))
   rw [hh] at this; cases this
 ·
  exact QJ ((h.iff _ _).1 (jc hh))
theorem yo.get (h:yo L M) (a:List UInt8):yM M a=Vy L a:=by
 cases hh:YQ L a
 ·
  rw [JY hh,xm (by rw [h.has,hh])]
 ·
  exact jG h.rm ((h.iff _ _).1 (jc hh))
theorem yo.one (h:yo L M) {n k a:List UInt8} (h1:(n,a)∈L) (h2:(k,a)∈L):n=k:=Qp h.rm ((h.iff _ _).1 h1) ((h.iff _ _).1 h2)
theorem yo.own (h:yo L M) {n a:List UInt8} (h1:(n,a)∈L):Vy L a=n:=h.one (jc (Ze h1)) h1
theorem yo.del (h:yo L M) {n:List UInt8} (hn:yE L n=true):yo (vx L n) (vx M (yM L n)):=by
 have hm:=vm hn
 refine ⟨uL h.rl n,uL h.rm _,fun k b=>?_⟩
 rw [yC,yC]
 constructor
 ·
  rintro ⟨h1,h2⟩
  refine ⟨(h.iff _ _).1 h1,fun e=>h2 ?_⟩
  have e':b=yM L n:=e
  subst e'
  exact h.one h1 hm
 ·
  rintro ⟨h1,h2⟩
  have h1':=(h.iff _ _).2 h1
  refine ⟨h1',fun e=>h2 ?_⟩
  have e':k=n:=e
  subst e'
  exact Qp h.rl h1' hm
theorem yo.put (h:yo L M) {n a:List UInt8} (hn:yE L n=false) (ha:YQ L a=false):yo (vl L n a) (vl M a n):=by
 refine ⟨uK h.rl n a,uK h.rm a n,fun k b=>?_⟩
 rw [vA,vA]
 constructor
 ·
  rintro (e | ⟨h1,h2⟩)
  ·
   injection e with e1 e2; subst e1; subst e2; exact .inl rfl
  ·
   refine .inr ⟨(h.iff _ _).1 h1,fun e=>?_⟩
   have e':b=a:=e
   subst e'
   have:=Ze h1
   rw [ha] at this; cases this
 ·
  rintro (e | ⟨h1,h2⟩)
  ·
   injection e with e1 e2; subst e1; subst e2; exact .inl rfl
  ·
   have h1':=(h.iff _ _).2 h1
   refine .inr ⟨h1',fun e=>?_⟩
   have e':k=n:=e
   subst e'
   have:=QJ h1'
   rw [hn] at this; cases this
end

theorem J1 (L:zl) (n:List UInt8):yE (vx L n) n=false:=by
 cases h:yE (vx L n) n
 ·
  rfl
 ·
  obtain ⟨p,hp,e⟩:=xW.1 h
  exact absurd e (yC.1 hp).2
theorem XY {L:zl} {n k:List UInt8} (h:k≠n):yE (vx L n) k=yE L k:=by
 cases hh:yE L k
 ·
  cases hd:yE (vx L n) k
  ·
   rfl
  ·
   obtain ⟨p,hp,e⟩:=xW.1 hd
   have:yE L k=true:=xW.2 ⟨p,(yC.1 hp).1,e⟩
   rw [hh] at this; cases this
 ·
  obtain ⟨p,hp,e⟩:=xW.1 hh
  exact xW.2 ⟨p,yC.2 ⟨hp,fun e'=>h (e.symm.trans e')⟩,e⟩
theorem put_del {L:zl} (h:uy L) (n a:List UInt8):vl (vx L n) n a=vl L n a:=by
 refine rise_ext (uK (uL h n) n a) (uK h n a) fun q=>?_
 rw [vA,vA,yC]
 constructor
 ·
  rintro (e | ⟨⟨h1,_⟩,h2⟩)
  ·
   exact .inl e
  ·
   exact .inr ⟨h1,h2⟩
 ·
  rintro (e | ⟨h1,h2⟩)
  ·
   exact .inl e
  ·
   exact .inr ⟨⟨h1,h2⟩,h2⟩
theorem get_put {L:zl} (h:uy L) (n a:List UInt8):yM (vl L n a) n=a:=jG (uK h n a) (vA.2 (.inl rfl))
end Go.Proofs.YteegkoicalbkbaaGreatDoor
namespace Go.Proofs.YteegkoicalbkbaaGreatDoor
open Go.RowKit Go.Maps

set_option maxRecDepth 100000 in
theorem yy (s:ByteArray) (w:World) (hl:s.size≤1000):Calls Tryz.prog 191 #[.string s] w fun e w'=>e=.returned (.string s)∧Below w.heap.size w w':=by
 have HC:=za (Tryz.stringslite_Clone s w (Nat.le_trans hl (by decide)))
 go_enter Tryz.func191,Tryz.ntmps191
 go_wp2_with fail
 with_reducible refine HC.out.mono ?_
 rintro e w1 ⟨rfl,hb⟩
 have HB:=za hb
 clear hb
 go_wp2
 go_ret
 exact ⟨rfl,HB.out⟩

set_option maxRecDepth 100000 in
theorem VW (C E B:Nat) (p:Option Nat) (L:zl) (s:ByteArray) (w:World) (h:vh w B p L) (hs:s.size≤maxLen) (hC:w.cell? ⟨C,0,none⟩=some (.pointer (some ⟨B,0,none⟩))) (hE:w.cell? ⟨E,0,none⟩=some (.string s)) :
  Calls Tryz.prog 398 #[.pointer (some ⟨C,0,none⟩),.pointer (some ⟨E,0,none⟩)] w (yL (!yE L s.data.toList) w):=by
 have hnot:∀ (x:Bool) (w:World),(Op.unary .not (.bool x)).run Tryz.prog w=.ok (.bool (!x)) w:=fun _ _=>rfl
 have HC:=za (UM B p L s w h hs)
 generalize yE L s.data.toList=r at *
 clear h
 go_enter Tryz.func398,Tryz.ntmps398
 go_wp2_with fail
 with_reducible refine HC.out.mono ?_
 rintro e w1 ⟨rfl,hb⟩
 have HB:=za hb
 clear hb HC hC hE
 cases r <;> go_wp2 <;> go_ret <;> exact ⟨rfl,HB.out⟩
set_option maxRecDepth 100000 in
theorem XV (C E B:Nat) (p:Option Nat) (L:zl) (s:ByteArray) (w:World) (h:vh w B p L) (hs:s.size≤maxLen) (hC:w.cell? ⟨C,0,none⟩=some (.pointer (some ⟨B,0,none⟩))) (hE:w.cell? ⟨E,0,none⟩=some (.string s)) :
  Calls Tryz.prog 400 #[.pointer (some ⟨C,0,none⟩),.pointer (some ⟨E,0,none⟩)] w (yL (yE L s.data.toList) w):=by
 have HC:=za (UM B p L s w h hs)
 generalize yE L s.data.toList=r at *
 clear h
 go_enter Tryz.func400,Tryz.ntmps400
 go_wp2_with fail
 with_reducible refine HC.out.mono ?_
 rintro e w1 ⟨rfl,hb⟩
 have HB:=za hb
 clear hb HC hC hE
 go_wp2
 go_ret
 exact ⟨rfl,HB.out⟩

set_option maxRecDepth 100000 in
theorem QT (B:Nat) (p:Option Nat) (L:zl) (s:ByteArray) (w:World) (h:vh w B p L) (hs:s.size≤maxLen) :
  Calls Tryz.prog 390 #[.pointer (some ⟨B,0,none⟩),.string s] w (vN (zi (!yE L s.data.toList) 9) w):=by
 have hmf:=mkf
 have bl:=zb (zb (Below.refl w.heap.size w) (.cells #[.pointer (some ⟨B,0,none⟩)] 77)) (.cells #[.string s] 9)
 have HU:Hid (Calls Tryz.prog 189 #[.func (.func 398) #[] #[.pointer (some ⟨w.heap.size,0,none⟩),.pointer (some ⟨w.heap.size+1,0,none⟩)],.int .i64 9] _ (vN (zi (!yE L s.data.toList) 9) ((w.alloc (.cells #[.pointer (some ⟨B,0,none⟩)] 77)).alloc (.cells #[.string s] 9)))) :=
  qU _ _ _ _ _ ⟨_,_,rfl,enters_of Tryz.func398 (by kernel_rfl) rfl,fun W hb=>VW _ _ B p L s W (h.later (z7 bl hb)) hs ((hb.cell (p:=⟨_,0,none⟩) (by simp; try omega)).trans (by simp)) ((hb.cell (p:=⟨_,0,none⟩) (by simp; try omega)).trans (by simp))⟩
 generalize zi (!yE L s.data.toList) 9=r at *
 have BL:=za bl
 clear h bl
 go_enter Tryz.func390,Tryz.ntmps390
 go_wp2_with fail
 with_reducible refine HU.out.mono ?_
 rintro e w1 ⟨g,lb,rfl,ha,hb⟩
 have HA:=za ha
 have HB:=za hb
 clear ha hb HU
 go_wp2
 go_ret
 exact ⟨g,lb,rfl,HA.out,z7 BL.out HB.out⟩
set_option maxRecDepth 100000 in
theorem qG (B:Nat) (p:Option Nat) (L:zl) (s:ByteArray) (w:World) (h:vh w B p L) (hs:s.size≤maxLen) :
  Calls Tryz.prog 392 #[.pointer (some ⟨B,0,none⟩),.string s] w (vN (zi (yE L s.data.toList) 8) w):=by
 have hmf:=mkf
 have bl:=zb (zb (Below.refl w.heap.size w) (.cells #[.pointer (some ⟨B,0,none⟩)] 77)) (.cells #[.string s] 9)
 have HU:Hid (Calls Tryz.prog 189 #[.func (.func 400) #[] #[.pointer (some ⟨w.heap.size,0,none⟩),.pointer (some ⟨w.heap.size+1,0,none⟩)],.int .i64 8] _ (vN (zi (yE L s.data.toList) 8) ((w.alloc (.cells #[.pointer (some ⟨B,0,none⟩)] 77)).alloc (.cells #[.string s] 9)))) :=
  qU _ _ _ _ _ ⟨_,_,rfl,enters_of Tryz.func400 (by kernel_rfl) rfl,fun W hb=>XV _ _ B p L s W (h.later (z7 bl hb)) hs ((hb.cell (p:=⟨_,0,none⟩) (by simp; try omega)).trans (by simp)) ((hb.cell (p:=⟨_,0,none⟩) (by simp; try omega)).trans (by simp))⟩
 generalize zi (yE L s.data.toList) 8=r at *
 have BL:=za bl
 clear h bl
 go_enter Tryz.func392,Tryz.ntmps392
 go_wp2_with fail
 with_reducible refine HU.out.mono ?_
 rintro e w1 ⟨g,lb,rfl,ha,hb⟩
 have HA:=za ha
 have HB:=za hb
 clear ha hb HU
 go_wp2
 go_ret
 exact ⟨g,lb,rfl,HA.out,z7 BL.out HB.out⟩

theorem fQ {w:World} {B b n:Nat} {p:Option Nat} {L':zl} (hblk:w.heap[B]? = some (.cells #[.map p] 120 (0,0))) (hp:p=some b) (hm:w.ownsMap Tryz.prog 9 (plainElem Tryz.prog 9) b n (YR L')) (hr:uy L') (hf:L'.length≤12) (ha:∀ q∈L',q.1.length≤12∧q.2.length≤12):vh w B p L' :=
 ⟨hblk,(fun h=>by rw [hp] at h; cases h),fun b' hb'=>by rw [hp] at hb'; cases hb'; exact fA.of hm,hr,hf,ha⟩
theorem mem_put {L:zl} {k v:List UInt8} {q:List UInt8×List UInt8} (h:q∈vl L k v):q=(k,v)∨q∈L:=by
 unfold vl at h
 exact (ZY.1 h).imp id (fun h=>(yC.1 h).1)
theorem jx {w w':World} {B b:Nat} (h:w.mapTurned w' b) (hne:b≠B):w'.heap[B]? = w.heap[B]? := by
 obtain ⟨es,clock,es',clock',_,rfl⟩:=h
 exact ChangeMaps.heap_setBlock_other (by assumption) _ (fun e=>hne e.symm)

def YDp7 (B b:Nat) (n h:ByteArray):Nat→Value→Prop
 | 3,v=>v=.map (some b)
 | 4,v=>v=.string n
 | 5,v=>v=.string n
 | 6,v=>v=.string h
 | 7,v=>v=.string h
 | _,v=>v=.pointer (some ⟨B,0,none⟩)
def YDpW7 (B b:Nat) (n h:ByteArray) (j:Nat) (v:Value) (_:World):Prop:=YDp7 B b n h j v
theorem put_all7 {L:zl} {s h:ByteArray} (ha:∀ q∈L,q.1.length≤12∧q.2.length≤12) (hs:s.size≤12) (hh:h.size≤12):∀ q∈vl L s.data.toList h.data.toList,q.1.length≤12∧q.2.length≤12:=fun q hq=>by
 rcases mem_put hq with rfl | hq
 ·
  exact ⟨by rw [zx]; exact hs,by rw [zx]; exact hh⟩
 ·
  exact ha q hq
theorem dstore7 {B b:Nat} {L:zl} {s h:ByteArray} {W:World} (hd:vh W B (some b) L) (hs:s.size≤12) (hh:h.size≤12) (hf:(vl L s.data.toList h.data.toList).length≤12) :
  ∃ w',(Instr.mapUpdate 118 (.map (some b)) (.string s) (.string h)).run Tryz.prog W=.ok () w'∧yU W B (some b) (vl L s.data.toList h.data.toList) w':=by
 have hs':s.size≤maxLen:=Nat.le_trans hs (by decide)
 have hh':h.size≤maxLen:=Nat.le_trans hh (by decide)
 obtain ⟨w1,hrun,hown,hturn⟩:=(hd.map b rfl).store jn Tryz.underlying118 (Nat.lt_of_le_of_lt hd.few (by decide)) (key7 s hs') (plainElem_string (H:=Unit) Tryz.underlying9 hh')
 rw [datE_put] at hown
 refine ⟨w1,hrun,some b,fQ ((jx hturn (hd.apart b rfl)).trans hd.blk) rfl hown (uK hd.rise s.data.toList h.data.toList) hf (put_all7 hd.all hs hh),(fun b' hb'=>.inl hb'),?_⟩
 exact (zg.refl _ W).grown hturn.grown (fun k hk _=>.inr hk)
set_option maxRecDepth 100000 in
theorem Ye (B:Nat) (p:Option Nat) (L:zl) (s h:ByteArray) (w:World) (hd:vh w B p L) (hs:s.size≤12) (hh:h.size≤12) (hf:(vl L s.data.toList h.data.toList).length≤12) :
  Calls Tryz.prog 148 #[.pointer (some ⟨B,0,none⟩),.string s,.string h] w fun e w'=>e=.returned (.tuple #[])∧yU w B p (vl L s.data.toList h.data.toList) w':=by
 have HC:Hid (∀ W,Calls Tryz.prog 191 #[.string s] W fun e w'=>e=.returned (.string s)∧Below W.heap.size W w'):=fun W=>yy s W (by omega)
 have HC1:Hid (∀ W,Calls Tryz.prog 191 #[.string h] W fun e w'=>e=.returned (.string h)∧Below W.heap.size W w'):=fun W=>yy h W (by omega)
 cases p with
 | some b =>
  have hq:=nilmap7 w (some b)
  have hc:=hd.cell
  have HST:Hid (∀ W,Below w.heap.size w W→∃ w',(Instr.mapUpdate 118 (.map (some b)) (.string s) (.string h)).run Tryz.prog W=.ok () w'∧yU w B (some b) (vl L s.data.toList h.data.toList) w'):=fun W hb=>by
   obtain ⟨w',h1,h2⟩:=dstore7 (hd.later hb) hs hh hf
   exact ⟨w',h1,h2.ahead hb⟩
  have HD2:=za hd
  clear hd hs hh hf
  obtain ⟨w2,hw2⟩:∃ w2,w2=w:=⟨_,rfl⟩
  rw [← hw2] at HD2
  have HST2:Hid (∀ W,Below w2.heap.size w2 W→∃ w',(Instr.mapUpdate 118 (.map (some b)) (.string s) (.string h)).run Tryz.prog W=.ok () w'∧yU w B (some b) (vl L s.data.toList h.data.toList) w'):=by rw [hw2]; exact HST.out
  clear HST
  have HST:=HST2
  clear HST2
  go_enter Tryz.func148,Tryz.ntmps148
  go_wp2_with fail
  rw [← hw2]
  refine zB (by kernel_rfl) 8 (fun W=>Below w2.heap.size w2 W) (fun W=>yU w B (some b) (vl L s.data.toList h.data.toList) W) (YDpW7 B b s h) (fun _=>True) ?F ?hF (by kernel_rfl) (by kernel_rfl) (by kernel_rfl) (by kernel_rfl) (by decide) (zQ (Below.refl _ _)) ?step ?fin
  case hF =>
   intro x
   simp only [List.map_cons,List.map_nil,xU,Act.put,List.setIfInBounds_toArray,List.set_cons_zero,List.set_cons_succ,Nat.zero_add,Nat.reduceAdd]
   exact rfl
  case step =>
   refine ⟨?_,?_,?_,?_,?_,?_,?_,?_,?_,trivial⟩
   ·
    intro x W
    refine ⟨fun _ hW hdep K hK=>?_,(fun h=>absurd h (by decide)),(fun h=>absurd h (by decide))⟩
    clear hdep
    go_simp
    exact hK _ _ rfl hW (fun _ _ h=>h)
   ·
    intro x W
    refine ⟨fun _ hW hdep K hK=>?_,(fun h=>absurd h (by decide)),(fun h=>absurd h (by decide))⟩
    have h0:x 0=_:=hdep 0 rfl
    clear hdep
    simp only [h0] at hK
    go_simp
    exact hK _ _ rfl hW (fun _ _ h=>h)
   ·
    intro x W
    refine ⟨fun _ hW hdep K hK=>?_,(fun h=>absurd h (by decide)),(fun h=>absurd h (by decide))⟩
    have h1:x 1=_:=hdep 1 rfl
    clear hdep
    simp only [h1] at hK
    go_simp
    exact hK _ _ rfl hW (fun _ _ h=>h)
   ·
    intro x W
    refine ⟨fun _ hW hdep K hK=>?_,(fun h=>absurd h (by decide)),(fun h=>absurd h (by decide))⟩
    have h2:x 2=_:=hdep 2 rfl
    have c:=(HD2.out.later hW).cell
    clear hdep
    simp only [h2] at hK
    go_simp
    exact hK _ _ rfl hW (fun _ _ h=>h)
   ·
    intro x W
    refine ⟨fun _ hW hdep K hK=>?_,(fun h=>absurd h (by decide)),(fun h=>absurd h (by decide))⟩
    clear hdep
    go_simp
    exact hK _ _ rfl hW (fun _ _ h=>h)
   ·
    intro x W
    refine ⟨fun _ hW hdep K hK=>?_,(fun h=>absurd h (by decide)),(fun h=>absurd h (by decide))⟩
    have h4:x 4=_:=hdep 4 rfl
    have hc:=HC.out W
    clear hdep
    simp only [h4] at hK
    go_simp
    refine hc.mono ?_
    rintro e W' ⟨rfl,hb⟩
    exact hK _ _ rfl (z7 hW hb) (fun _ _ h=>h)
   ·
    intro x W
    refine ⟨fun _ hW hdep K hK=>?_,(fun h=>absurd h (by decide)),(fun h=>absurd h (by decide))⟩
    clear hdep
    go_simp
    exact hK _ _ rfl hW (fun _ _ h=>h)
   ·
    intro x W
    refine ⟨fun _ hW hdep K hK=>?_,(fun h=>absurd h (by decide)),(fun h=>absurd h (by decide))⟩
    have h6:x 6=_:=hdep 6 rfl
    have hc:=HC1.out W
    clear hdep
    simp only [h6] at hK
    go_simp
    refine hc.mono ?_
    rintro e W' ⟨rfl,hb⟩
    exact hK _ _ rfl (z7 hW hb) (fun _ _ h=>h)
   ·
    intro x W
    refine ⟨(fun h=>absurd h (by decide)),fun _ hW hdep K hK=>?_,(fun h=>absurd h (by decide))⟩
    have h3:x 3=_:=hdep 3 rfl
    have h5:x 5=_:=hdep 5 rfl
    have h7:x 7=_:=hdep 7 rfl
    obtain ⟨w',hrun,hg⟩:=HST.out W hW
    clear hdep
    simp only [h3,h5,h7] at hK
    go_simp
    exact hK undef _ trivial hg
  case fin =>
   intro x W hW _
   have HF:=za hW
   clear hW HST HC HC1 HD2
   go_end0
   exact ⟨rfl,HF.out⟩
 | none =>
  have hL:=hd.nil rfl
  subst hL
  have hBl:=hd.lt
  have hsz:(w.setCell ⟨B,0,none⟩ (.map (some w.heap.size))).heap.size=w.heap.size:=by simp [World.setCell]
  have h1:=World.ownsMap_made (H:=Unit) (w.setCell ⟨B,0,none⟩ (.map (some w.heap.size))) Tryz.prog 9 (plainElem Tryz.prog 9)
  rw [hsz] at h1
  have hblk1:=heap_setCell_box_a (.map (some w.heap.size)) hd.blk
  have hblk2:((w.setCell ⟨B,0,none⟩ (.map (some w.heap.size))).alloc (.map #[] 0)).heap[B]? = some (.cells #[.map (some w.heap.size)] 120 (0,0)):=(Below.heap_alloc _ _ B (by omega)).trans hblk1
  have hd2:vh ((w.setCell ⟨B,0,none⟩ (.map (some w.heap.size))).alloc (.map #[] 0)) B (some w.heap.size) []:=fQ hblk2 rfl h1 List.Pairwise.nil (Nat.zero_le _) (fun _ h=>nomatch h)
  have ht2:zg (fun i=>i=B) w ((w.setCell ⟨B,0,none⟩ (.map (some w.heap.size))).alloc (.map #[] 0)):=((zg.refl (fun i=>i=B) w).setCell (p:=⟨B,0,none⟩) (fun _=>rfl) _).alloc _
  have hq:=nilmap7 w none
  have hc:=hd.cell
  have hf0:=hd.frozen
  have hmm:=@run_makeMap Tryz.prog
  have HD2:=za hd2
  have HT2:=za ht2
  clear hd h1 hblk1 hblk2 hsz hd2 ht2
  go_enter Tryz.func148,Tryz.ntmps148
  go_wp2_with fail
  generalize (w.setCell ⟨B,0,none⟩ (.map (some w.heap.size))).alloc (.map #[] 0)=w2 at *
  have HST:Hid (∀ W,Below w2.heap.size w2 W→∃ w',(Instr.mapUpdate 118 (.map (some w.heap.size)) (.string s) (.string h)).run Tryz.prog W=.ok () w'∧yU w B none (vl [] s.data.toList h.data.toList) w'):=fun W hb=>by
   obtain ⟨w',h1,h2⟩:=dstore7 (HD2.out.later hb) hs hh hf
   obtain ⟨p',hd',hp,ht⟩:=h2.ahead hb
   refine ⟨w',h1,p',hd',fun b' hb'=>.inr ?_,HT2.out.next ht (fun i hi e=>?_) |>.mono (fun i _ e=>.inl e)⟩
   ·
    rcases hp b' hb' with e | e
    ·
     cases e; exact Nat.le_refl _
    ·
     exact Nat.le_trans HT2.out.size e
   ·
    rcases e with e | e
    ·
     exact e
    ·
     cases e; omega
  clear hs hh hf hq hc hf0 hmm hBl HT2
  refine zB (by kernel_rfl) 8 (fun W=>Below w2.heap.size w2 W) (fun W=>yU w B none (vl [] s.data.toList h.data.toList) W) (YDpW7 B w.heap.size s h) (fun _=>True) ?F2 ?hF2 (by kernel_rfl) (by kernel_rfl) (by kernel_rfl) (by kernel_rfl) (by decide) (zQ (Below.refl _ _)) ?step2 ?fin2
  case hF2 =>
   intro x
   simp only [List.map_cons,List.map_nil,xU,Act.put,List.setIfInBounds_toArray,List.set_cons_zero,List.set_cons_succ,Nat.zero_add,Nat.reduceAdd]
   exact rfl
  case step2 =>
   refine ⟨?_,?_,?_,?_,?_,?_,?_,?_,?_,trivial⟩
   ·
    intro x W
    refine ⟨fun _ hW hdep K hK=>?_,(fun h=>absurd h (by decide)),(fun h=>absurd h (by decide))⟩
    clear hdep
    go_simp
    exact hK _ _ rfl hW (fun _ _ h=>h)
   ·
    intro x W
    refine ⟨fun _ hW hdep K hK=>?_,(fun h=>absurd h (by decide)),(fun h=>absurd h (by decide))⟩
    have h0:x 0=_:=hdep 0 rfl
    clear hdep
    simp only [h0] at hK
    go_simp
    exact hK _ _ rfl hW (fun _ _ h=>h)
   ·
    intro x W
    refine ⟨fun _ hW hdep K hK=>?_,(fun h=>absurd h (by decide)),(fun h=>absurd h (by decide))⟩
    have h1:x 1=_:=hdep 1 rfl
    clear hdep
    simp only [h1] at hK
    go_simp
    exact hK _ _ rfl hW (fun _ _ h=>h)
   ·
    intro x W
    refine ⟨fun _ hW hdep K hK=>?_,(fun h=>absurd h (by decide)),(fun h=>absurd h (by decide))⟩
    have h2:x 2=_:=hdep 2 rfl
    have c:=(HD2.out.later hW).cell
    clear hdep
    simp only [h2] at hK
    go_simp
    exact hK _ _ rfl hW (fun _ _ h=>h)
   ·
    intro x W
    refine ⟨fun _ hW hdep K hK=>?_,(fun h=>absurd h (by decide)),(fun h=>absurd h (by decide))⟩
    clear hdep
    go_simp
    exact hK _ _ rfl hW (fun _ _ h=>h)
   ·
    intro x W
    refine ⟨fun _ hW hdep K hK=>?_,(fun h=>absurd h (by decide)),(fun h=>absurd h (by decide))⟩
    have h4:x 4=_:=hdep 4 rfl
    have hc:=HC.out W
    clear hdep
    simp only [h4] at hK
    go_simp
    refine hc.mono ?_
    rintro e W' ⟨rfl,hb⟩
    exact hK _ _ rfl (z7 hW hb) (fun _ _ h=>h)
   ·
    intro x W
    refine ⟨fun _ hW hdep K hK=>?_,(fun h=>absurd h (by decide)),(fun h=>absurd h (by decide))⟩
    clear hdep
    go_simp
    exact hK _ _ rfl hW (fun _ _ h=>h)
   ·
    intro x W
    refine ⟨fun _ hW hdep K hK=>?_,(fun h=>absurd h (by decide)),(fun h=>absurd h (by decide))⟩
    have h6:x 6=_:=hdep 6 rfl
    have hc:=HC1.out W
    clear hdep
    simp only [h6] at hK
    go_simp
    refine hc.mono ?_
    rintro e W' ⟨rfl,hb⟩
    exact hK _ _ rfl (z7 hW hb) (fun _ _ h=>h)
   ·
    intro x W
    refine ⟨(fun h=>absurd h (by decide)),fun _ hW hdep K hK=>?_,(fun h=>absurd h (by decide))⟩
    have h3:x 3=_:=hdep 3 rfl
    have h5:x 5=_:=hdep 5 rfl
    have h7:x 7=_:=hdep 7 rfl
    obtain ⟨w',hrun,hg⟩:=HST.out W hW
    clear hdep
    simp only [h3,h5,h7] at hK
    go_simp
    exact hK undef _ trivial hg
  case fin2 =>
   intro x W hW _
   have HF:=za hW
   clear hW HST HC HC1 HD2
   go_end0
   exact ⟨rfl,HF.out⟩

def Un (W:World) (v:Value) (es:List Int):Prop:=∃ G l,v=.slice (some ⟨G,0,none⟩) es.length es.length∧l.map (·.2)=es∧uE W G l
theorem Un.below {W W':World} {v:Value} {es:List Int} (h:Un W v es) (hb:Below W.heap.size W W'):Un W' v es:=by
 obtain ⟨G,l,e,h1,h2⟩:=h
 exact ⟨G,l,e,h1,h2.later hb⟩
theorem Zz (W:World) (l:List (Value×Int)) (t:TypeId) (ha:∀ x∈l,YK x.1 x.2 W):Un (W.alloc (.cells (l.map (·.1)).toArray t)) (.slice (some ⟨W.heap.size,0,none⟩) (l.map (·.2)).length (l.map (·.2)).length) (l.map (·.2)):=by
 refine ⟨_,l,rfl,rfl,by simp,fun j hj=>⟨?_,(ha _ (List.getElem_mem hj)).later (zb (Below.refl _ _) _)⟩⟩
 rw [World.cell?_alloc_at _ _ _ _ rfl]
 simp [hj]

structure Box7 (W:World) (b0 B:Nat) (n h:ByteArray):Prop where
 lt:b0+2<W.heap.size
 c0:W.cell? ⟨b0,0,none⟩=some (.pointer (some ⟨B,0,none⟩))
 c1:W.cell? ⟨b0+1,0,none⟩=some (.string n)
 c2:W.cell? ⟨b0+2,0,none⟩=some (.string h)
theorem Box7.later {W W':World} {b0 B:Nat} {n h:ByteArray} (hx:Box7 W b0 B n h) (hb:Below W.heap.size W W'):Box7 W' b0 B n h :=
 have:=hx.lt
 ⟨Nat.lt_of_lt_of_le hx.lt hb.size,(hb.cell (p:=⟨b0,0,none⟩) (by show b0<_; omega)).trans hx.c0,(hb.cell (p:=⟨b0+1,0,none⟩) (by show b0+1<_; omega)).trans hx.c1,(hb.cell (p:=⟨b0+2,0,none⟩) (by show b0+2<_; omega)).trans hx.c2⟩
theorem box7_new (w:World) (B:Nat) (n h:ByteArray):Box7 (((w.alloc (.cells #[.pointer (some ⟨B,0,none⟩)] 77)).alloc (.cells #[.string n] 9)).alloc (.cells #[.string h] 9)) w.heap.size B n h:=by
 refine ⟨by simp,?_,?_,?_⟩
 ·
  rw [World.cell?_alloc_past _ _ _ (by simp; omega),World.cell?_alloc_past _ _ _ (by simp),World.cell?_alloc_at _ _ _ _ rfl]; rfl
 ·
  rw [World.cell?_alloc_past _ _ _ (by simp),World.cell?_alloc_at _ _ _ _ (by simp)]; rfl
 ·
  rw [World.cell?_alloc_at _ _ _ _ (by simp)]; rfl

set_option maxRecDepth 100000 in
theorem U5 (b0 B:Nat) (p:Option Nat) (L:zl) (n h:ByteArray) (w:World) (hx:Box7 w b0 B n h) (hd:vh w B p L) (hn:n.size≤12) (hh:h.size≤12) (hf:(vl L n.data.toList h.data.toList).length≤12) :
  Calls Tryz.prog 386 #[.pointer (some ⟨b0,0,none⟩),.pointer (some ⟨b0+1,0,none⟩),.pointer (some ⟨b0+2,0,none⟩)] w fun e w'=>e=.returned (.tuple #[])∧yU w B p (vl L n.data.toList h.data.toList) w':=by
 have HP:=za (Ye B p L n h w hd hn hh hf)
 have c0:=hx.c0
 have c1:=hx.c1
 have c2:=hx.c2
 clear hd hf hx
 go_enter Tryz.func386,Tryz.ntmps386
 go_wp2_with fail
 with_reducible refine HP.out.mono ?_
 rintro e w1 ⟨rfl,hg⟩
 have HG:=za hg
 clear hg HP c0 c1 c2
 go_wp2
 go_end0
 exact ⟨rfl,HG.out⟩
set_option maxRecDepth 100000 in
theorem Xn (b0 B:Nat) (p:Option Nat) (L:zl) (n h:ByteArray) (w:World) (hx:Box7 w b0 B n h) (hd:vh w B p L) (hn:n.size≤12) (hh:h.size≤12) (hf:(vl L n.data.toList h.data.toList).length≤12) :
  Calls Tryz.prog 395 #[.pointer (some ⟨b0,0,none⟩),.pointer (some ⟨b0+1,0,none⟩),.pointer (some ⟨b0+2,0,none⟩)] w fun e w'=>e=.returned (.tuple #[])∧yU w B p (vl L n.data.toList h.data.toList) w':=by
 have HP:=za (Ye B p L n h w hd hn hh hf)
 have c0:=hx.c0
 have c1:=hx.c1
 have c2:=hx.c2
 clear hd hf hx
 go_enter Tryz.func395,Tryz.ntmps395
 go_wp2_with fail
 with_reducible refine HP.out.mono ?_
 rintro e w1 ⟨rfl,hg⟩
 have HG:=za hg
 clear hg HP c0 c1 c2
 go_wp2
 go_end0
 exact ⟨rfl,HG.out⟩

def crE (L:zl) (n h:List UInt8):Int:=xX [zi (zh n) 10,zi (yj h) 4,zi (!yE L n) 9,zi (decide ((L.length:Int)+1≤12)) 7]
def seE (L:zl) (n h:List UInt8):Int:=xX [zi (zh n) 10,zi (yj h) 4,zi (yE L n) 8]
def deE (L:zl) (n:List UInt8):Int:=xX [zi (zh n) 10,zi (yE L n) 8]
def crL (L:zl) (n h:List UInt8):zl:=if crE L n h=0 then vl L n h else L
def seL (L:zl) (n h:List UInt8):zl:=if seE L n h=0 then vl L n h else L
def deL (L:zl) (n:List UInt8):zl:=if deE L n=0 then vx L n else L
theorem xG {b:Bool} {n:Int} (hn:n≠0):zi b n=0↔b=true:=by cases b <;> simp [zi,hn]
theorem ym {e:Int} {l:List Int} (h:xX (e::l)=0):e=0∧xX l=0:=by
 unfold xX at h
 split at h
 ·
  exact ⟨by assumption,h⟩
 ·
  exact absurd h (by assumption)
theorem UD {n:ByteArray} (h:zh n.data.toList=true):n.size≤12:=by
 unfold zh uM at h
 simp only [Bool.and_eq_true,decide_eq_true_eq] at h
 have:=h.1.1.2.1
 rwa [zx] at this
theorem UJ {n:ByteArray} (h:yj n.data.toList=true):n.size≤12:=by
 unfold yj at h
 simp only [Bool.and_eq_true,decide_eq_true_eq] at h
 have:=h.1.2
 rwa [zx] at this
theorem crE_zero {L:zl} {n h:List UInt8} (e:crE L n h=0):zh n=true∧yj h=true∧yE L n=false∧L.length+1≤12:=by
 obtain ⟨e1,e⟩:=ym e
 obtain ⟨e2,e⟩:=ym e
 obtain ⟨e3,e⟩:=ym e
 obtain ⟨e4,_⟩:=ym e
 have:=(xG (by decide)).1 e4
 rw [decide_eq_true_eq] at this
 exact ⟨(xG (by decide)).1 e1,(xG (by decide)).1 e2,by simpa using (xG (by decide)).1 e3,by omega⟩
theorem seE_zero {L:zl} {n h:List UInt8} (e:seE L n h=0):zh n=true∧yj h=true∧yE L n=true:=by
 obtain ⟨e1,e⟩:=ym e
 obtain ⟨e2,e⟩:=ym e
 obtain ⟨e3,_⟩:=ym e
 exact ⟨(xG (by decide)).1 e1,(xG (by decide)).1 e2,(xG (by decide)).1 e3⟩

def YCr7 (b0 B:Nat) (n h:ByteArray) (m e0 e1 e2 e3:Int):Nat→Value→World→Prop
 | 0,v,_=>v=.func (.func 386) #[] #[.pointer (some ⟨b0,0,none⟩),.pointer (some ⟨b0+1,0,none⟩),.pointer (some ⟨b0+2,0,none⟩)]
 | 1,v,_=>v=.string n
 | 2,v,W=>YK v e0 W
 | 3,v,_=>v=.string h
 | 4,v,W=>YK v e1 W
 | 5,v,_=>v=.pointer (some ⟨B,0,none⟩)
 | 6,v,_=>v=.string n
 | 7,v,W=>YK v e2 W
 | 8,v,_=>v=.pointer (some ⟨B,0,none⟩)
 | 9,v,_=>v=.int .i64 m
 | 10,v,_=>v=.int .i64 (m+1)
 | 11,v,W=>YK v e3 W
 | _,v,W=>Un W v [e0,e1,e2,e3]
theorem jN {b0 B:Nat} {n h:ByteArray} {m e0 e1 e2 e3:Int} {W W':World} (hb:Below W.heap.size W W') (j:Nat) (z:Value) (hz:YCr7 b0 B n h m e0 e1 e2 e3 j z W):YCr7 b0 B n h m e0 e1 e2 e3 j z W':=by
 match j,hz with
 | 0,hz=>exact hz
 | 1,hz=>exact hz
 | 2,hz=>exact hz.later hb
 | 3,hz=>exact hz
 | 4,hz=>exact hz.later hb
 | 5,hz=>exact hz
 | 6,hz=>exact hz
 | 7,hz=>exact hz.later hb
 | 8,hz=>exact hz
 | 9,hz=>exact hz
 | 10,hz=>exact hz
 | 11,hz=>exact hz.later hb
 | _+12,hz=>exact hz.below hb
def YSe7 (b0 B:Nat) (n h:ByteArray) (e0 e1 e2:Int):Nat→Value→World→Prop
 | 0,v,_=>v=.func (.func 395) #[] #[.pointer (some ⟨b0,0,none⟩),.pointer (some ⟨b0+1,0,none⟩),.pointer (some ⟨b0+2,0,none⟩)]
 | 1,v,_=>v=.string n
 | 2,v,W=>YK v e0 W
 | 3,v,_=>v=.string h
 | 4,v,W=>YK v e1 W
 | 5,v,_=>v=.pointer (some ⟨B,0,none⟩)
 | 6,v,_=>v=.string n
 | 7,v,W=>YK v e2 W
 | _,v,W=>Un W v [e0,e1,e2]
theorem ZD {b0 B:Nat} {n h:ByteArray} {e0 e1 e2:Int} {W W':World} (hb:Below W.heap.size W W') (j:Nat) (z:Value) (hz:YSe7 b0 B n h e0 e1 e2 j z W):YSe7 b0 B n h e0 e1 e2 j z W':=by
 match j,hz with
 | 0,hz=>exact hz
 | 1,hz=>exact hz
 | 2,hz=>exact hz.later hb
 | 3,hz=>exact hz
 | 4,hz=>exact hz.later hb
 | 5,hz=>exact hz
 | 6,hz=>exact hz
 | 7,hz=>exact hz.later hb
 | _+8,hz=>exact hz.below hb
def YDe7 (b0 B:Nat) (n:ByteArray) (e0 e1:Int):Nat→Value→World→Prop
 | 0,v,_=>v=.func (.func 391) #[] #[.pointer (some ⟨b0,0,none⟩),.pointer (some ⟨b0+1,0,none⟩)]
 | 1,v,_=>v=.string n
 | 2,v,W=>YK v e0 W
 | 3,v,_=>v=.pointer (some ⟨B,0,none⟩)
 | 4,v,_=>v=.string n
 | 5,v,W=>YK v e1 W
 | _,v,W=>Un W v [e0,e1]
theorem Vn {b0 B:Nat} {n:ByteArray} {e0 e1:Int} {W W':World} (hb:Below W.heap.size W W') (j:Nat) (z:Value) (hz:YDe7 b0 B n e0 e1 j z W):YDe7 b0 B n e0 e1 j z W':=by
 match j,hz with
 | 0,hz=>exact hz
 | 1,hz=>exact hz
 | 2,hz=>exact hz.later hb
 | 3,hz=>exact hz
 | 4,hz=>exact hz
 | 5,hz=>exact hz.later hb
 | _+6,hz=>exact hz.below hb
set_option maxRecDepth 100000 in
theorem Zw (B:Nat) (p:Option Nat) (L:zl) (n h:ByteArray) (w:World) (hd:vh w B p L) (hn:n.size≤9223372036854775807) (hh:h.size≤9223372036854775807) :
  Calls Tryz.prog 382 #[.pointer (some ⟨B,0,none⟩),.string n,.string h] w fun e w'=>e=.returned (.int .i64 (crE L n.data.toList h.data.toList))∧yU w B p (crL L n.data.toList h.data.toList) w':=by
 have hn':n.size≤maxLen:=Nat.le_trans hn (by decide)
 have hmf:=mkf
 have bl:=zb (zb (zb (Below.refl w.heap.size w) (.cells #[.pointer (some ⟨B,0,none⟩)] 77)) (.cells #[.string n] 9)) (.cells #[.string h] 9)
 have HX:=za (box7_new w B n h)
 have HB0:=za bl
 have HD1:=za (hd.later bl)
 have HN:Hid (∀ W,Calls Tryz.prog 388 #[.string n] W (vN (zi (zh n.data.toList) 10) W)):=fun W=>uN n W hn
 have HS:Hid (∀ W,Calls Tryz.prog 389 #[.string h] W (vN (zi (yj h.data.toList) 4) W)):=fun W=>YC h W hh
 have HI:Hid (∀ W,vh W B p L→Calls Tryz.prog 390 #[.pointer (some ⟨B,0,none⟩),.string n] W (vN (zi (!yE L n.data.toList) 9) W)):=fun W hD=>QT B p L n W hD hn'
 have HLN:Hid (∀ W,vh W B p L→Calls Tryz.prog 301 #[.pointer (some ⟨B,0,none⟩)] W fun e w'=>e=.returned (.int .i64 L.length)∧w'=W):=fun W hD=>UF B p L W hD
 have HFT:Hid (∀ W,Calls Tryz.prog 147 #[.int .i64 ((L.length:Int)+1)] W (vN (zi (decide ((L.length:Int)+1≤12)) 7) W)):=fun W=>fit7_calls _ W
 have HK:Hid (∀ W,Below ((((w.alloc (.cells #[.pointer (some ⟨B,0,none⟩)] 77)).alloc (.cells #[.string n] 9)).alloc (.cells #[.string h] 9))).heap.size ((((w.alloc (.cells #[.pointer (some ⟨B,0,none⟩)] 77)).alloc (.cells #[.string n] 9)).alloc (.cells #[.string h] 9))) W→∀ G l,l.map (·.2)=[zi (zh n.data.toList) 10,zi (yj h.data.toList) 4,zi (!yE L n.data.toList) 9,zi (decide ((L.length:Int)+1≤12)) 7]→uE W G l →
   Calls Tryz.prog 387 #[.func (.func 386) #[] #[.pointer (some ⟨w.heap.size,0,none⟩),.pointer (some ⟨w.heap.size+1,0,none⟩),.pointer (some ⟨w.heap.size+2,0,none⟩)],.slice (some ⟨G,0,none⟩) 4 4] W
    fun e w'=>e=.returned (.int .i64 (crE L n.data.toList h.data.toList))∧yU W B p (crL L n.data.toList h.data.toList) w'):=fun W hW G l hes hrow=>by
  have hlen:4=l.length:=by have:=congrArg List.length hes; simpa using this.symm
  by_cases h0:crE L n.data.toList h.data.toList=0
  ·
   obtain ⟨z1,z2,z3,z4⟩:=crE_zero h0
   have hf:(vl L n.data.toList h.data.toList).length≤12:=by rw [vI hd.rise,z3]; exact z4
   rw [h0,show crL L n.data.toList h.data.toList=vl L n.data.toList h.data.toList from if_pos h0]
   refine (do7_ok G 4 4 l _ _ W (fun W0 w'=>yU W0 B p (vl L n.data.toList h.data.toList) w') hlen (by decide) hrow (by rw [hes]; exact h0) (enters_of Tryz.func386 (by kernel_rfl) rfl) fun W2 hW2=>?_).mono fun e w' ⟨he,W2,hb,hg⟩=>⟨he,hg.ahead hb⟩
   exact U5 _ B p L n h W2 ((HX.out.later hW).later hW2) ((HD1.out.later hW).later hW2) (UD z1) (UJ z2) hf
  ·
   rw [show crL L n.data.toList h.data.toList=L from if_neg h0]
   have hb:=do7_bad G 4 4 l (.func (.func 386) #[] #[.pointer (some ⟨w.heap.size,0,none⟩),.pointer (some ⟨w.heap.size+1,0,none⟩),.pointer (some ⟨w.heap.size+2,0,none⟩)]) W hlen (by decide) hrow (by rw [hes]; exact h0)
   rw [hes] at hb
   exact hb.mono fun e w' ⟨he,hbl⟩=>⟨he,yU.still (HD1.out.later hW) hbl⟩
 generalize crE L n.data.toList h.data.toList=r at *
 generalize crL L n.data.toList h.data.toList=L' at *
 generalize zi (zh n.data.toList) 10=e0 at *
 generalize zi (yj h.data.toList) 4=e1 at *
 generalize zi (!yE L n.data.toList) 9=e2 at *
 generalize zi (decide ((L.length:Int)+1≤12)) 7=e3 at *
 have hm12:(L.length:Int)≤12:=by have:=hd.few; omega
 have hm0:(0:Int)≤(L.length:Int):=by omega
 generalize (L.length:Int)=m at *
 clear hd bl
 go_enter Tryz.func382,Tryz.ntmps382
 go_wp2_with fail
 generalize (((w.alloc (.cells #[.pointer (some ⟨B,0,none⟩)] 77)).alloc (.cells #[.string n] 9)).alloc (.cells #[.string h] 9))=w1 at *
 refine zB (by kernel_rfl) 13 (fun W=>Below w1.heap.size w1 W) (fun W=>yU w1 B p L' W) (YCr7 w.heap.size B n h m e0 e1 e2 e3) (fun v=>v=.int .i64 r) ?F ?hF (by kernel_rfl) (by kernel_rfl) (by kernel_rfl) (by kernel_rfl) (by decide) (zQ (Below.refl _ _)) ?step ?fin
 case hF =>
  intro x
  simp only [List.map_cons,List.map_nil,xU,Act.put,List.setIfInBounds_toArray,List.set_cons_zero,List.set_cons_succ,Nat.zero_add,Nat.reduceAdd]
  exact rfl
 case step =>
  refine ⟨?_,?_,?_,?_,?_,?_,?_,?_,?_,?_,?_,?_,?_,?_,?_,trivial⟩
  ·
   intro x W
   refine ⟨fun _ hW hdep K hK=>?_,(fun h=>absurd h (by decide)),(fun h=>absurd h (by decide))⟩
   clear hdep
   go_simp
   exact hK _ _ rfl hW (fun _ _ h=>h)
  ·
   intro x W
   refine ⟨fun _ hW hdep K hK=>?_,(fun h=>absurd h (by decide)),(fun h=>absurd h (by decide))⟩
   have c1:=(HX.out.later hW).c1
   clear hdep
   go_simp
   exact hK _ _ rfl hW (fun _ _ h=>h)
  ·
   intro x W
   refine ⟨fun _ hW hdep K hK=>?_,(fun h=>absurd h (by decide)),(fun h=>absurd h (by decide))⟩
   have h1:x 1=_:=hdep 1 rfl
   clear hdep
   simp only [h1] at hK
   go_simp
   refine (HN.out W).mono ?_
   rintro e W' ⟨g,lb,rfl,ha,hb⟩
   exact hK _ _ ha (z7 hW hb) (fun j u h=>jN hb j u h)
  ·
   intro x W
   refine ⟨fun _ hW hdep K hK=>?_,(fun h=>absurd h (by decide)),(fun h=>absurd h (by decide))⟩
   have c2:=(HX.out.later hW).c2
   clear hdep
   go_simp
   exact hK _ _ rfl hW (fun _ _ h=>h)
  ·
   intro x W
   refine ⟨fun _ hW hdep K hK=>?_,(fun h=>absurd h (by decide)),(fun h=>absurd h (by decide))⟩
   have h3:x 3=_:=hdep 3 rfl
   clear hdep
   simp only [h3] at hK
   go_simp
   refine (HS.out W).mono ?_
   rintro e W' ⟨g,lb,rfl,ha,hb⟩
   exact hK _ _ ha (z7 hW hb) (fun j u h=>jN hb j u h)
  ·
   intro x W
   refine ⟨fun _ hW hdep K hK=>?_,(fun h=>absurd h (by decide)),(fun h=>absurd h (by decide))⟩
   have c0:=(HX.out.later hW).c0
   clear hdep
   go_simp
   exact hK _ _ rfl hW (fun _ _ h=>h)
  ·
   intro x W
   refine ⟨fun _ hW hdep K hK=>?_,(fun h=>absurd h (by decide)),(fun h=>absurd h (by decide))⟩
   have c1:=(HX.out.later hW).c1
   clear hdep
   go_simp
   exact hK _ _ rfl hW (fun _ _ h=>h)
  ·
   intro x W
   refine ⟨fun _ hW hdep K hK=>?_,(fun h=>absurd h (by decide)),(fun h=>absurd h (by decide))⟩
   have h5:x 5=_:=hdep 5 rfl
   have h6:x 6=_:=hdep 6 rfl
   clear hdep
   simp only [h5,h6] at hK
   go_simp
   refine (HI.out W (HD1.out.later hW)).mono ?_
   rintro e W' ⟨g,lb,rfl,ha,hb⟩
   exact hK _ _ ha (z7 hW hb) (fun j u h=>jN hb j u h)
  ·
   intro x W
   refine ⟨fun _ hW hdep K hK=>?_,(fun h=>absurd h (by decide)),(fun h=>absurd h (by decide))⟩
   have c0:=(HX.out.later hW).c0
   clear hdep
   go_simp
   exact hK _ _ rfl hW (fun _ _ h=>h)
  ·
   intro x W
   refine ⟨fun _ hW hdep K hK=>?_,(fun h=>absurd h (by decide)),(fun h=>absurd h (by decide))⟩
   have h8:x 8=_:=hdep 8 rfl
   clear hdep
   simp only [h8] at hK
   go_simp
   refine (HLN.out W (HD1.out.later hW)).mono ?_
   rintro e W' ⟨rfl,rfl⟩
   exact hK _ _ rfl hW (fun _ _ h=>h)
  ·
   intro x W
   refine ⟨fun _ hW hdep K hK=>?_,(fun h=>absurd h (by decide)),(fun h=>absurd h (by decide))⟩
   have h9:x 9=_:=hdep 9 rfl
   clear hdep
   simp only [h9] at hK
   go_simp
   exact hK _ _ (by show _=_; rw [IntKind.wrap_i64,show (m+1+9223372036854775808) % 18446744073709551616 - 9223372036854775808=m+1 by omega]) hW (fun _ _ h=>h)
  ·
   intro x W
   refine ⟨fun _ hW hdep K hK=>?_,(fun h=>absurd h (by decide)),(fun h=>absurd h (by decide))⟩
   have h10:x 10=_:=hdep 10 rfl
   clear hdep
   simp only [h10] at hK
   go_simp
   refine (HFT.out W).mono ?_
   rintro e W' ⟨g,lb,rfl,ha,hb⟩
   exact hK _ _ ha (z7 hW hb) (fun j u h=>jN hb j u h)
  ·
   intro x W
   refine ⟨fun _ hW hdep K hK=>?_,(fun h=>absurd h (by decide)),(fun h=>absurd h (by decide))⟩
   have a2:YK (x 2) e0 W:=hdep 2 rfl
   have a4:YK (x 4) e1 W:=hdep 4 rfl
   have a7:YK (x 7) e2 W:=hdep 7 rfl
   have a11:YK (x 11) e3 W:=hdep 11 rfl
   have A2:=za a2
   obtain ⟨g2,lb2,h2,_⟩:=a2
   rw [h2] at A2
   have A4:=za a4
   obtain ⟨g4,lb4,h4,_⟩:=a4
   rw [h4] at A4
   have A7:=za a7
   obtain ⟨g7,lb7,h7,_⟩:=a7
   rw [h7] at A7
   have A11:=za a11
   obtain ⟨g11,lb11,h11,_⟩:=a11
   rw [h11] at A11
   simp only [h2,h4,h7,h11] at hK
   clear hdep
   go_simp
   have hn:=Zz W [(.func (.func g2) #[] lb2,e0),(.func (.func g4) #[] lb4,e1),(.func (.func g7) #[] lb7,e2),(.func (.func g11) #[] lb11,e3)] 222 (by
    intro y hy
    simp only [List.mem_cons,List.not_mem_nil,or_false] at hy
    rcases hy with rfl | rfl | rfl | rfl
    ·
     exact A2.out
    ·
     exact A4.out
    ·
     exact A7.out
    ·
     exact A11.out)
   exact hK _ _ hn (zb hW _) (fun j z h=>jN (zb (Below.refl _ _) _) j z h)
  ·
   intro x W
   refine ⟨(fun h=>absurd h (by decide)),fun _ hW hdep K hK=>?_,(fun h=>absurd h (by decide))⟩
   have h0:x 0=_:=hdep 0 rfl
   have hA:Un W (x 12) [e0,e1,e2,e3]:=hdep 12 rfl
   obtain ⟨G,l,h12,hes,hrow⟩:=hA
   simp only [h0,h12] at hK
   have HKW:=za (HK.out W hW G l hes hrow)
   clear hdep
   go_simp
   refine HKW.out.mono ?_
   rintro e W' ⟨rfl,hg⟩
   exact hK _ _ rfl (yU.ahead hW hg)
  ·
   intro x W
   refine ⟨(fun h=>absurd h (by decide)),(fun h=>absurd h (by decide)),fun _ hW hdep K hK=>?_⟩
   have h13:x 13=_:=hdep 13 rfl (by decide)
   clear hdep
   simp only [h13] at hK
   go_simp
   exact hK _ rfl
 case fin =>
  intro x W hW hZ
  have h14:x 14=.int .i64 r:=hZ 14 (by decide) (by decide)
  have HF:=za (yU.ahead HB0.out hW)
  clear hZ hW HX HB0 HD1 HK
  rw [h14]
  go_wp2
  go_ret
  exact ⟨rfl,HF.out⟩

set_option maxRecDepth 100000 in
theorem VC (B:Nat) (p:Option Nat) (L:zl) (n h:ByteArray) (w:World) (hd:vh w B p L) (hn:n.size≤9223372036854775807) (hh:h.size≤9223372036854775807) :
  Calls Tryz.prog 385 #[.pointer (some ⟨B,0,none⟩),.string n,.string h] w fun e w'=>e=.returned (.int .i64 (seE L n.data.toList h.data.toList))∧yU w B p (seL L n.data.toList h.data.toList) w':=by
 have hn':n.size≤maxLen:=Nat.le_trans hn (by decide)
 have hmf:=mkf
 have bl:=zb (zb (zb (Below.refl w.heap.size w) (.cells #[.pointer (some ⟨B,0,none⟩)] 77)) (.cells #[.string n] 9)) (.cells #[.string h] 9)
 have HX:=za (box7_new w B n h)
 have HB0:=za bl
 have HD1:=za (hd.later bl)
 have HN:Hid (∀ W,Calls Tryz.prog 388 #[.string n] W (vN (zi (zh n.data.toList) 10) W)):=fun W=>uN n W hn
 have HS:Hid (∀ W,Calls Tryz.prog 389 #[.string h] W (vN (zi (yj h.data.toList) 4) W)):=fun W=>YC h W hh
 have HI:Hid (∀ W,vh W B p L→Calls Tryz.prog 392 #[.pointer (some ⟨B,0,none⟩),.string n] W (vN (zi (yE L n.data.toList) 8) W)):=fun W hD=>qG B p L n W hD hn'
 have HK:Hid (∀ W,Below ((((w.alloc (.cells #[.pointer (some ⟨B,0,none⟩)] 77)).alloc (.cells #[.string n] 9)).alloc (.cells #[.string h] 9))).heap.size ((((w.alloc (.cells #[.pointer (some ⟨B,0,none⟩)] 77)).alloc (.cells #[.string n] 9)).alloc (.cells #[.string h] 9))) W→∀ G l,l.map (·.2)=[zi (zh n.data.toList) 10,zi (yj h.data.toList) 4,zi (yE L n.data.toList) 8]→uE W G l →
   Calls Tryz.prog 387 #[.func (.func 395) #[] #[.pointer (some ⟨w.heap.size,0,none⟩),.pointer (some ⟨w.heap.size+1,0,none⟩),.pointer (some ⟨w.heap.size+2,0,none⟩)],.slice (some ⟨G,0,none⟩) 3 3] W
    fun e w'=>e=.returned (.int .i64 (seE L n.data.toList h.data.toList))∧yU W B p (seL L n.data.toList h.data.toList) w'):=fun W hW G l hes hrow=>by
  have hlen:3=l.length:=by have:=congrArg List.length hes; simpa using this.symm
  by_cases h0:seE L n.data.toList h.data.toList=0
  ·
   obtain ⟨z1,z2,z3⟩:=seE_zero h0
   have hf:(vl L n.data.toList h.data.toList).length≤12:=by rw [vI hd.rise,z3]; exact hd.few
   rw [h0,show seL L n.data.toList h.data.toList=vl L n.data.toList h.data.toList from if_pos h0]
   refine (do7_ok G 3 3 l _ _ W (fun W0 w'=>yU W0 B p (vl L n.data.toList h.data.toList) w') hlen (by decide) hrow (by rw [hes]; exact h0) (enters_of Tryz.func395 (by kernel_rfl) rfl) fun W2 hW2=>?_).mono fun e w' ⟨he,W2,hb,hg⟩=>⟨he,hg.ahead hb⟩
   exact Xn _ B p L n h W2 ((HX.out.later hW).later hW2) ((HD1.out.later hW).later hW2) (UD z1) (UJ z2) hf
  ·
   rw [show seL L n.data.toList h.data.toList=L from if_neg h0]
   have hb:=do7_bad G 3 3 l (.func (.func 395) #[] #[.pointer (some ⟨w.heap.size,0,none⟩),.pointer (some ⟨w.heap.size+1,0,none⟩),.pointer (some ⟨w.heap.size+2,0,none⟩)]) W hlen (by decide) hrow (by rw [hes]; exact h0)
   rw [hes] at hb
   exact hb.mono fun e w' ⟨he,hbl⟩=>⟨he,yU.still (HD1.out.later hW) hbl⟩
 generalize seE L n.data.toList h.data.toList=r at *
 generalize seL L n.data.toList h.data.toList=L' at *
 generalize zi (zh n.data.toList) 10=e0 at *
 generalize zi (yj h.data.toList) 4=e1 at *
 generalize zi (yE L n.data.toList) 8=e2 at *
 clear hd bl
 go_enter Tryz.func385,Tryz.ntmps385
 go_wp2_with fail
 generalize (((w.alloc (.cells #[.pointer (some ⟨B,0,none⟩)] 77)).alloc (.cells #[.string n] 9)).alloc (.cells #[.string h] 9))=w1 at *
 refine zB (by kernel_rfl) 9 (fun W=>Below w1.heap.size w1 W) (fun W=>yU w1 B p L' W) (YSe7 w.heap.size B n h e0 e1 e2) (fun v=>v=.int .i64 r) ?F ?hF (by kernel_rfl) (by kernel_rfl) (by kernel_rfl) (by kernel_rfl) (by decide) (zQ (Below.refl _ _)) ?step ?fin
 case hF =>
  intro x
  simp only [List.map_cons,List.map_nil,xU,Act.put,List.setIfInBounds_toArray,List.set_cons_zero,List.set_cons_succ,Nat.zero_add,Nat.reduceAdd]
  exact rfl
 case step =>
  refine ⟨?_,?_,?_,?_,?_,?_,?_,?_,?_,?_,?_,trivial⟩
  ·
   intro x W
   refine ⟨fun _ hW hdep K hK=>?_,(fun h=>absurd h (by decide)),(fun h=>absurd h (by decide))⟩
   clear hdep
   go_simp
   exact hK _ _ rfl hW (fun _ _ h=>h)
  ·
   intro x W
   refine ⟨fun _ hW hdep K hK=>?_,(fun h=>absurd h (by decide)),(fun h=>absurd h (by decide))⟩
   have c1:=(HX.out.later hW).c1
   clear hdep
   go_simp
   exact hK _ _ rfl hW (fun _ _ h=>h)
  ·
   intro x W
   refine ⟨fun _ hW hdep K hK=>?_,(fun h=>absurd h (by decide)),(fun h=>absurd h (by decide))⟩
   have h1:x 1=_:=hdep 1 rfl
   clear hdep
   simp only [h1] at hK
   go_simp
   refine (HN.out W).mono ?_
   rintro e W' ⟨g,lb,rfl,ha,hb⟩
   exact hK _ _ ha (z7 hW hb) (fun j u h=>ZD hb j u h)
  ·
   intro x W
   refine ⟨fun _ hW hdep K hK=>?_,(fun h=>absurd h (by decide)),(fun h=>absurd h (by decide))⟩
   have c2:=(HX.out.later hW).c2
   clear hdep
   go_simp
   exact hK _ _ rfl hW (fun _ _ h=>h)
  ·
   intro x W
   refine ⟨fun _ hW hdep K hK=>?_,(fun h=>absurd h (by decide)),(fun h=>absurd h (by decide))⟩
   have h3:x 3=_:=hdep 3 rfl
   clear hdep
   simp only [h3] at hK
   go_simp
   refine (HS.out W).mono ?_
   rintro e W' ⟨g,lb,rfl,ha,hb⟩
   exact hK _ _ ha (z7 hW hb) (fun j u h=>ZD hb j u h)
  ·
   intro x W
   refine ⟨fun _ hW hdep K hK=>?_,(fun h=>absurd h (by decide)),(fun h=>absurd h (by decide))⟩
   have c0:=(HX.out.later hW).c0
   clear hdep
   go_simp
   exact hK _ _ rfl hW (fun _ _ h=>h)
  ·
   intro x W
   refine ⟨fun _ hW hdep K hK=>?_,(fun h=>absurd h (by decide)),(fun h=>absurd h (by decide))⟩
   have c1:=(HX.out.later hW).c1
   clear hdep
   go_simp
   exact hK _ _ rfl hW (fun _ _ h=>h)
  ·
   intro x W
   refine ⟨fun _ hW hdep K hK=>?_,(fun h=>absurd h (by decide)),(fun h=>absurd h (by decide))⟩
   have h5:x 5=_:=hdep 5 rfl
   have h6:x 6=_:=hdep 6 rfl
   clear hdep
   simp only [h5,h6] at hK
   go_simp
   refine (HI.out W (HD1.out.later hW)).mono ?_
   rintro e W' ⟨g,lb,rfl,ha,hb⟩
   exact hK _ _ ha (z7 hW hb) (fun j u h=>ZD hb j u h)
  ·
   intro x W
   refine ⟨fun _ hW hdep K hK=>?_,(fun h=>absurd h (by decide)),(fun h=>absurd h (by decide))⟩
   have a2:YK (x 2) e0 W:=hdep 2 rfl
   have a4:YK (x 4) e1 W:=hdep 4 rfl
   have a7:YK (x 7) e2 W:=hdep 7 rfl
   have A2:=za a2
   obtain ⟨g2,lb2,h2,_⟩:=a2
   rw [h2] at A2
   have A4:=za a4
   obtain ⟨g4,lb4,h4,_⟩:=a4
   rw [h4] at A4
   have A7:=za a7
   obtain ⟨g7,lb7,h7,_⟩:=a7
   rw [h7] at A7
   simp only [h2,h4,h7] at hK
   clear hdep
   go_simp
   have hn:=Zz W [(.func (.func g2) #[] lb2,e0),(.func (.func g4) #[] lb4,e1),(.func (.func g7) #[] lb7,e2)] 222 (by
    intro y hy
    simp only [List.mem_cons,List.not_mem_nil,or_false] at hy
    rcases hy with rfl | rfl | rfl
    ·
     exact A2.out
    ·
     exact A4.out
    ·
     exact A7.out)
   exact hK _ _ hn (zb hW _) (fun j z h=>ZD (zb (Below.refl _ _) _) j z h)
  ·
   intro x W
   refine ⟨(fun h=>absurd h (by decide)),fun _ hW hdep K hK=>?_,(fun h=>absurd h (by decide))⟩
   have h0:x 0=_:=hdep 0 rfl
   have hA:Un W (x 8) [e0,e1,e2]:=hdep 8 rfl
   obtain ⟨G,l,h8,hes,hrow⟩:=hA
   simp only [h0,h8] at hK
   have HKW:=za (HK.out W hW G l hes hrow)
   clear hdep
   go_simp
   refine HKW.out.mono ?_
   rintro e W' ⟨rfl,hg⟩
   exact hK _ _ rfl (yU.ahead hW hg)
  ·
   intro x W
   refine ⟨(fun h=>absurd h (by decide)),(fun h=>absurd h (by decide)),fun _ hW hdep K hK=>?_⟩
   have h9:x 9=_:=hdep 9 rfl (by decide)
   clear hdep
   simp only [h9] at hK
   go_simp
   exact hK _ rfl
 case fin =>
  intro x W hW hZ
  have h10:x 10=.int .i64 r:=hZ 10 (by decide) (by decide)
  have HF:=za (yU.ahead HB0.out hW)
  clear hZ hW HX HB0 HD1 HK
  rw [h10]
  go_wp2
  go_ret
  exact ⟨rfl,HF.out⟩

theorem del7 {w:World} {B:Nat} {p:Option Nat} {L:zl} (hd:vh w B p L) (s:ByteArray) (hs:s.size≤maxLen) :
  ∃ w',(Builtin.delete_ #[118,9] 0 #[.map p,.string s]).run Tryz.prog w=.ok (.tuple #[]) w'∧yU w B p (vx L s.data.toList) w':=by
 cases p with
 | none =>
  have hL:=hd.nil rfl
  subst hL
  exact ⟨w,Maps.drop_nil jn Tryz.underlying118 (key7 s hs) _,yU.still hd (Below.refl _ _)⟩
 | some b =>
  obtain ⟨w1,hrun,hown,hturn⟩:=(hd.map b rfl).drop jn Tryz.underlying118 (key7 s hs) 0
  rw [datE_del] at hown
  refine ⟨w1,hrun,some b,fQ ((jx hturn (hd.apart b rfl)).trans hd.blk) rfl hown (uL hd.rise _) ?_ (fun q hq=>hd.all q (yC.1 hq).1),(fun b' hb'=>.inl hb'),?_⟩
  ·
   exact Nat.le_trans (List.length_filter_le _ _) hd.few
  ·
   exact (zg.refl _ w).grown hturn.grown (fun k hk _=>.inr hk)

def YDel7 (B:Nat) (p:Option Nat) (n:ByteArray):Nat→Value→World→Prop
 | 3,v,_=>v=.map p
 | 4,v,_=>v=.string n
 | _,v,_=>v=.pointer (some ⟨B,0,none⟩)

set_option maxRecDepth 100000 in
theorem U3 (b0 B:Nat) (p:Option Nat) (L:zl) (n:ByteArray) (w:World) (hc0:w.cell? ⟨b0,0,none⟩=some (.pointer (some ⟨B,0,none⟩))) (hc1:w.cell? ⟨b0+1,0,none⟩=some (.string n)) (hd:vh w B p L) (hn:n.size≤maxLen) :
  Calls Tryz.prog 391 #[.pointer (some ⟨b0,0,none⟩),.pointer (some ⟨b0+1,0,none⟩)] w fun e w'=>e=.returned (.tuple #[])∧yU w B p (vx L n.data.toList) w':=by
 have l0:b0<w.heap.size:=World.block_lt_of_cell? w _ hc0
 have l1:b0+1<w.heap.size:=World.block_lt_of_cell? w _ hc1
 have HC0:=za hc0
 have HC1:=za hc1
 have HD:=za hd
 clear hc0 hc1 hd
 go_enter Tryz.func391,Tryz.ntmps391
 refine zB (by kernel_rfl) 5 (fun W=>Below w.heap.size w W) (fun W=>yU w B p (vx L n.data.toList) W) (YDel7 B p n) (fun v=>v=.tuple #[]) ?F ?hF (by kernel_rfl) (by kernel_rfl) (by kernel_rfl) (by kernel_rfl) (by decide) (zQ (Below.refl _ _)) ?step ?fin
 case hF =>
  intro x
  simp only [List.map_cons,List.map_nil,xU,Act.put,List.setIfInBounds_toArray,List.set_cons_zero,List.set_cons_succ,Nat.zero_add,Nat.reduceAdd]
  exact rfl
 case step =>
  refine ⟨?_,?_,?_,?_,?_,?_,trivial⟩
  ·
   intro x W
   refine ⟨fun _ hW hdep K hK=>?_,(fun h=>absurd h (by decide)),(fun h=>absurd h (by decide))⟩
   have c0:=(hW.cell (p:=⟨b0,0,none⟩) l0).trans HC0.out
   clear hdep
   go_simp
   exact hK _ _ rfl hW (fun _ _ h=>h)
  ·
   intro x W
   refine ⟨fun _ hW hdep K hK=>?_,(fun h=>absurd h (by decide)),(fun h=>absurd h (by decide))⟩
   have h0:x 0=_:=hdep 0 rfl
   clear hdep
   simp only [h0] at hK
   go_simp
   exact hK _ _ rfl hW (fun _ _ h=>h)
  ·
   intro x W
   refine ⟨fun _ hW hdep K hK=>?_,(fun h=>absurd h (by decide)),(fun h=>absurd h (by decide))⟩
   have h1:x 1=_:=hdep 1 rfl
   clear hdep
   simp only [h1] at hK
   go_simp
   exact hK _ _ rfl hW (fun _ _ h=>h)
  ·
   intro x W
   refine ⟨fun _ hW hdep K hK=>?_,(fun h=>absurd h (by decide)),(fun h=>absurd h (by decide))⟩
   have h2:x 2=_:=hdep 2 rfl
   have c:=(HD.out.later hW).cell
   clear hdep
   simp only [h2] at hK
   go_simp
   exact hK _ _ rfl hW (fun _ _ h=>h)
  ·
   intro x W
   refine ⟨fun _ hW hdep K hK=>?_,(fun h=>absurd h (by decide)),(fun h=>absurd h (by decide))⟩
   have c1:=(hW.cell (p:=⟨b0+1,0,none⟩) l1).trans HC1.out
   clear hdep
   go_simp
   exact hK _ _ rfl hW (fun _ _ h=>h)
  ·
   intro x W
   refine ⟨(fun h=>absurd h (by decide)),fun _ hW hdep K hK=>?_,(fun h=>absurd h (by decide))⟩
   have h3:x 3=_:=hdep 3 rfl
   have h4:x 4=_:=hdep 4 rfl
   obtain ⟨w',hrun,hg⟩:=del7 (HD.out.later hW) n hn
   clear hdep
   simp only [h3,h4] at hK
   go_simp
   exact hK _ _ rfl (hg.ahead hW)
 case fin =>
  intro x W hW _
  have HF:=za hW
  clear hW HD HC0 HC1
  go_end0
  exact ⟨rfl,HF.out⟩

set_option maxRecDepth 100000 in
theorem Zu (B:Nat) (p:Option Nat) (L:zl) (n:ByteArray) (w:World) (hd:vh w B p L) (hn:n.size≤9223372036854775807) :
  Calls Tryz.prog 383 #[.pointer (some ⟨B,0,none⟩),.string n] w fun e w'=>e=.returned (.int .i64 (deE L n.data.toList))∧yU w B p (deL L n.data.toList) w':=by
 have hn':n.size≤maxLen:=Nat.le_trans hn (by decide)
 have hmf:=mkf
 have bl:=zb (zb (Below.refl w.heap.size w) (.cells #[.pointer (some ⟨B,0,none⟩)] 77)) (.cells #[.string n] 9)
 have HX:=za (trivial)
 have HB0:=za bl
 have HD1:=za (hd.later bl)
 have HN:Hid (∀ W,Calls Tryz.prog 388 #[.string n] W (vN (zi (zh n.data.toList) 10) W)):=fun W=>uN n W hn
 have HI:Hid (∀ W,vh W B p L→Calls Tryz.prog 392 #[.pointer (some ⟨B,0,none⟩),.string n] W (vN (zi (yE L n.data.toList) 8) W)):=fun W hD=>qG B p L n W hD hn'
 have l0:w.heap.size<(((w.alloc (.cells #[.pointer (some ⟨B,0,none⟩)] 77)).alloc (.cells #[.string n] 9))).heap.size:=by simp; omega
 have l1:w.heap.size+1<(((w.alloc (.cells #[.pointer (some ⟨B,0,none⟩)] 77)).alloc (.cells #[.string n] 9))).heap.size:=by simp
 have HX0:Hid ((((w.alloc (.cells #[.pointer (some ⟨B,0,none⟩)] 77)).alloc (.cells #[.string n] 9))).cell? ⟨w.heap.size,0,none⟩=some (.pointer (some ⟨B,0,none⟩))):=by show _=_; simp
 have HX1:Hid ((((w.alloc (.cells #[.pointer (some ⟨B,0,none⟩)] 77)).alloc (.cells #[.string n] 9))).cell? ⟨w.heap.size+1,0,none⟩=some (.string n)):=by show _=_; simp
 have HK:Hid (∀ W,Below (((w.alloc (.cells #[.pointer (some ⟨B,0,none⟩)] 77)).alloc (.cells #[.string n] 9))).heap.size (((w.alloc (.cells #[.pointer (some ⟨B,0,none⟩)] 77)).alloc (.cells #[.string n] 9))) W→∀ G l,l.map (·.2)=[zi (zh n.data.toList) 10,zi (yE L n.data.toList) 8]→uE W G l →
   Calls Tryz.prog 387 #[.func (.func 391) #[] #[.pointer (some ⟨w.heap.size,0,none⟩),.pointer (some ⟨w.heap.size+1,0,none⟩)],.slice (some ⟨G,0,none⟩) 2 2] W
    fun e w'=>e=.returned (.int .i64 (deE L n.data.toList))∧yU W B p (deL L n.data.toList) w'):=fun W hW G l hes hrow=>by
  have hlen:2=l.length:=by have:=congrArg List.length hes; simpa using this.symm
  by_cases h0:deE L n.data.toList=0
  ·
   rw [h0,show deL L n.data.toList=vx L n.data.toList from if_pos h0]
   refine (do7_ok G 2 2 l _ _ W (fun W0 w'=>yU W0 B p (vx L n.data.toList) w') hlen (by decide) hrow (by rw [hes]; exact h0) (enters_of Tryz.func391 (by kernel_rfl) rfl) fun W2 hW2=>?_).mono fun e w' ⟨he,W2,hb,hg⟩=>⟨he,hg.ahead hb⟩
   have hb2:=z7 hW hW2
   exact U3 _ B p L n W2 ((hb2.cell (p:=⟨_,0,none⟩) l0).trans HX0.out) ((hb2.cell (p:=⟨_,0,none⟩) l1).trans HX1.out) ((HD1.out.later hW).later hW2) hn'
  ·
   rw [show deL L n.data.toList=L from if_neg h0]
   have hb:=do7_bad G 2 2 l (.func (.func 391) #[] #[.pointer (some ⟨w.heap.size,0,none⟩),.pointer (some ⟨w.heap.size+1,0,none⟩)]) W hlen (by decide) hrow (by rw [hes]; exact h0)
   rw [hes] at hb
   exact hb.mono fun e w' ⟨he,hbl⟩=>⟨he,yU.still (HD1.out.later hW) hbl⟩
 generalize deE L n.data.toList=r at *
 generalize deL L n.data.toList=L' at *
 generalize zi (zh n.data.toList) 10=e0 at *
 generalize zi (yE L n.data.toList) 8=e1 at *
 clear hd bl
 go_enter Tryz.func383,Tryz.ntmps383
 go_wp2_with fail
 generalize ((w.alloc (.cells #[.pointer (some ⟨B,0,none⟩)] 77)).alloc (.cells #[.string n] 9))=w1 at *
 refine zB (by kernel_rfl) 7 (fun W=>Below w1.heap.size w1 W) (fun W=>yU w1 B p L' W) (YDe7 w.heap.size B n e0 e1) (fun v=>v=.int .i64 r) ?F ?hF (by kernel_rfl) (by kernel_rfl) (by kernel_rfl) (by kernel_rfl) (by decide) (zQ (Below.refl _ _)) ?step ?fin
 case hF =>
  intro x
  simp only [List.map_cons,List.map_nil,xU,Act.put,List.setIfInBounds_toArray,List.set_cons_zero,List.set_cons_succ,Nat.zero_add,Nat.reduceAdd]
  exact rfl
 case step =>
  refine ⟨?_,?_,?_,?_,?_,?_,?_,?_,?_,trivial⟩
  ·
   intro x W
   refine ⟨fun _ hW hdep K hK=>?_,(fun h=>absurd h (by decide)),(fun h=>absurd h (by decide))⟩
   clear hdep
   go_simp
   exact hK _ _ rfl hW (fun _ _ h=>h)
  ·
   intro x W
   refine ⟨fun _ hW hdep K hK=>?_,(fun h=>absurd h (by decide)),(fun h=>absurd h (by decide))⟩
   have c1:=(hW.cell (p:=⟨w.heap.size+1,0,none⟩) l1).trans HX1.out
   clear hdep
   go_simp
   exact hK _ _ rfl hW (fun _ _ h=>h)
  ·
   intro x W
   refine ⟨fun _ hW hdep K hK=>?_,(fun h=>absurd h (by decide)),(fun h=>absurd h (by decide))⟩
   have h1:x 1=_:=hdep 1 rfl
   clear hdep
   simp only [h1] at hK
   go_simp
   refine (HN.out W).mono ?_
   rintro e W' ⟨g,lb,rfl,ha,hb⟩
   exact hK _ _ ha (z7 hW hb) (fun j u h=>Vn hb j u h)
  ·
   intro x W
   refine ⟨fun _ hW hdep K hK=>?_,(fun h=>absurd h (by decide)),(fun h=>absurd h (by decide))⟩
   have c0:=(hW.cell (p:=⟨w.heap.size,0,none⟩) l0).trans HX0.out
   clear hdep
   go_simp
   exact hK _ _ rfl hW (fun _ _ h=>h)
  ·
   intro x W
   refine ⟨fun _ hW hdep K hK=>?_,(fun h=>absurd h (by decide)),(fun h=>absurd h (by decide))⟩
   have c1:=(hW.cell (p:=⟨w.heap.size+1,0,none⟩) l1).trans HX1.out
   clear hdep
   go_simp
   exact hK _ _ rfl hW (fun _ _ h=>h)
  ·
   intro x W
   refine ⟨fun _ hW hdep K hK=>?_,(fun h=>absurd h (by decide)),(fun h=>absurd h (by decide))⟩
   have h3:x 3=_:=hdep 3 rfl
   have h4:x 4=_:=hdep 4 rfl
   clear hdep
   simp only [h3,h4] at hK
   go_simp
   refine (HI.out W (HD1.out.later hW)).mono ?_
   rintro e W' ⟨g,lb,rfl,ha,hb⟩
   exact hK _ _ ha (z7 hW hb) (fun j u h=>Vn hb j u h)
  ·
   intro x W
   refine ⟨fun _ hW hdep K hK=>?_,(fun h=>absurd h (by decide)),(fun h=>absurd h (by decide))⟩
   have a2:YK (x 2) e0 W:=hdep 2 rfl
   have a5:YK (x 5) e1 W:=hdep 5 rfl
   have A2:=za a2
   obtain ⟨g2,lb2,h2,_⟩:=a2
   rw [h2] at A2
   have A5:=za a5
   obtain ⟨g5,lb5,h5,_⟩:=a5
   rw [h5] at A5
   simp only [h2,h5] at hK
   clear hdep
   go_simp
   have hn:=Zz W [(.func (.func g2) #[] lb2,e0),(.func (.func g5) #[] lb5,e1)] 222 (by
    intro y hy
    simp only [List.mem_cons,List.not_mem_nil,or_false] at hy
    rcases hy with rfl | rfl
    ·
     exact A2.out
    ·
     exact A5.out)
   exact hK _ _ hn (zb hW _) (fun j z h=>Vn (zb (Below.refl _ _) _) j z h)
  ·
   intro x W
   refine ⟨(fun h=>absurd h (by decide)),fun _ hW hdep K hK=>?_,(fun h=>absurd h (by decide))⟩
   have h0:x 0=_:=hdep 0 rfl
   have hA:Un W (x 6) [e0,e1]:=hdep 6 rfl
   obtain ⟨G,l,h6,hes,hrow⟩:=hA
   simp only [h0,h6] at hK
   have HKW:=za (HK.out W hW G l hes hrow)
   clear hdep
   go_simp
   refine HKW.out.mono ?_
   rintro e W' ⟨rfl,hg⟩
   exact hK _ _ rfl (yU.ahead hW hg)
  ·
   intro x W
   refine ⟨(fun h=>absurd h (by decide)),(fun h=>absurd h (by decide)),fun _ hW hdep K hK=>?_⟩
   have h7:x 7=_:=hdep 7 rfl (by decide)
   clear hdep
   simp only [h7] at hK
   go_simp
   exact hK _ rfl
 case fin =>
  intro x W hW hZ
  have h8:x 8=.int .i64 r:=hZ 8 (by decide) (by decide)
  have HF:=za (yU.ahead HB0.out hW)
  clear hZ hW HX HB0 HD1 HK
  rw [h8]
  go_wp2
  go_ret
  exact ⟨rfl,HF.out⟩
end Go.Proofs.YteegkoicalbkbaaGreatDoor
namespace Go.Proofs.YteegkoicalbkbaaGreatDoor
open Go.RowKit Go.Maps Go.Sort Go.Shelf

def Jw (w:World) (v:Value) (ls:List (List UInt8)):Prop:=∃ A c,v=.slice A ls.length c∧∀ j (h:j<ls.length),∃ g,A=some ⟨g,0,none⟩∧w.cell? ⟨g,j,none⟩=some (.string (tx7 ls[j]))
theorem Jw.later {w w':World} {v:Value} {ls:List (List UInt8)} (h:Jw w v ls) (hb:Below w.heap.size w w'):Jw w' v ls:=by
 obtain ⟨A,c,e,hc⟩:=h
 exact ⟨A,c,e,fun j hj=>by obtain ⟨g,e,h⟩:=hc j hj; exact ⟨g,e,(hb.cell (p:=⟨g,j,none⟩) (World.block_lt_of_cell? w _ h)).trans h⟩⟩
theorem Jw.nil (w:World):Jw w (.slice none 0 0) []:=⟨none,0,rfl,fun _ h=>absurd h (Nat.not_lt_zero _)⟩
theorem Jw.of_own {w:World} {base:Nat} {e:TypeId} {v:Value} {ls:List (List UInt8)} (h:w.ownsRow base e 1 v ls.length (ls.map encStr)):Jw w v ls:=by
 obtain ⟨A,c,rfl⟩:∃ A c,v=.slice A ls.length c:=by
  rcases h.2 with ⟨rfl,h0⟩ | ⟨g,cap,cur,rfl,_⟩
  ·
   exact ⟨none,0,by rw [h0]⟩
  ·
   exact ⟨_,_,rfl⟩
 refine ⟨A,c,rfl,fun j hj=>?_⟩
 rcases h.2 with ⟨_,h0⟩ | ⟨g,cap,cur,e1,_⟩
 ·
  omega
 ·
  injection e1 with e1
  subst e1
  refine ⟨g,rfl,?_⟩
  have:=h.cells (g:=g) rfl j (encStr ls[j]) (by simp [hj])
  rw [Addr.add_lit,Nat.zero_add] at this
  exact this

set_option maxRecDepth 100000 in
theorem Yy (C:Nat) (pre s:ByteArray) (w:World) (hc:w.cell? ⟨C,0,none⟩=some (.string pre)) :
  Calls Tryz.prog 394 #[.string s,.pointer (some ⟨C,0,none⟩)] w fun e w'=>e=.returned (.bool (!Lib.hasPrefix s.data.toList pre.data.toList))∧w'=w:=by
 have hnot:∀ (x:Bool) (w:World),(Op.unary .not (.bool x)).run Tryz.prog w=.ok (.bool (!x)) w:=fun _ _=>rfl
 have HC:=za (Tryz.strings_HasPrefix s pre w)
 generalize Lib.hasPrefix s.data.toList pre.data.toList=r at *
 go_enter Tryz.func394,Tryz.ntmps394
 go_wp2_with fail
 with_reducible refine HC.out.mono ?_
 rintro e w1 ⟨rfl,rfl⟩
 clear HC hc
 cases r <;> go_wp2 <;> go_ret <;> exact ⟨rfl,rfl⟩

set_option maxRecDepth 100000 in
theorem Jb (fv:Value) (c:Nat) (w:World) (hfv:∃ g lb,fv=.func (.func g) #[] lb):Calls Tryz.prog 324 #[.slice none 0 c,fv] w fun e w'=>e=.returned (.slice none 0 c)∧w'=w:=by
 obtain ⟨g,lb,rfl⟩:=hfv
 have HI:=za (Tryz.slices_IndexFunc_empty (α:=List UInt8) none c (.func (.func g) #[] lb) w)
 go_enter Tryz.func324,Tryz.ntmps324
 go_wp2_with (go_at_call 238; (with_reducible refine HI.out.mono ?_); rintro e w' ⟨rfl,rfl⟩)
 go_ret
 exact ⟨rfl,rfl⟩

def YG (ls:List (List UInt8)) (pre:List UInt8):List (List UInt8):=ls.filter fun x=>Lib.hasPrefix x pre

theorem delf7_calls (base C:Nat) (v:Value) (ls:List (List UInt8)) (pre:ByteArray) (w:World) (hc:w.cell? ⟨C,0,none⟩=some (.string pre)) (hC:C<base) (hbase:base≤w.heap.size) (hv:w.ownsRow base 9 1 v ls.length (ls.map encStr)) :
  Calls Tryz.prog 324 #[v,.func (.func 394) #[] #[.pointer (some ⟨C,0,none⟩)]] w fun e w'=>∃ v',e=.returned v'∧Jw w' v' (YG ls pre.data.toList)∧Below base w w':=by
 rcases hv.2 with ⟨rfl,h0⟩ | ⟨gb,cap,cur,rfl,hbg,hgb,r1,r2,r3,r4⟩
 ·
  obtain rfl:ls=[]:=List.eq_nil_of_length_eq_zero h0
  exact (Jb _ 0 w ⟨_,_,rfl⟩).mono fun e w' ⟨he,hw⟩=>⟨_,he,Jw.nil _,by rw [hw]; exact Below.refl _ _⟩
 ·
  have hH:Holds encStr w gb 0 ls.toArray:=holds_of_block hgb (by simpa using r4)
  have hgl:gb<w.heap.size:=(Array.getElem?_eq_some_iff.1 hgb).1
  have hpa:PredAt Tryz.prog 394 #[.pointer (some ⟨C,0,none⟩)] encStr (fun x=>!Lib.hasPrefix x pre.data.toList) w:=fun W x hb =>
   (Yy C pre ⟨x.toArray⟩ W ((hb.cell (p:=⟨C,0,none⟩) (by show C<_; omega)).trans hc)).mono fun e w' ⟨he,hw⟩=>⟨he,0,hw⟩
  have hpo:PredOver Tryz.prog 394 #[.pointer (some ⟨C,0,none⟩)] encStr (fun x=>!Lib.hasPrefix x pre.data.toList) gb 0 ls.toArray.size w:=fun n os dk x _ =>
   (Yy C pre ⟨x.toArray⟩ _ (by
    unfold sortWorld
    rw [cell?_grow _ _ _ (by show C<(putRow _ _ _ _ _).heap.size; rw [size_putRow]; show C<w.heap.size; omega),cell?_putRow_other _ _ gb 0 _ _ (Or.inl (by show C≠gb; omega))]
    exact hc)).mono fun e w' ⟨he,hw⟩=>⟨he,0,hw⟩
  have hm:maxLen=9223372036854775807:=rfl
  have hd:=Tryz.slices_DeleteFunc encStr (fun _=>rfl) (fun x=>!Lib.hasPrefix x pre.data.toList) _ _ (enters_of Tryz.func394 (by kernel_rfl) rfl) [] (fun w=>Q7 w) gb 0 cap ls.toArray w hpa hpo hH (by simp; omega) (by simpa using r1)
  have e1:(ls.toArray.toList.filter fun x=>!(fun x=>!Lib.hasPrefix x pre.data.toList) x)=YG ls pre.data.toList:=by simp [YG]
  rw [e1] at hd
  have hls:(YG ls pre.data.toList).length≤ls.length:=List.length_filter_le _ _
  generalize YG ls pre.data.toList=r at *
  refine (show Calls _ _ #[.slice (some ⟨gb,0,none⟩) ls.toArray.size cap,_] _ _ from hd.mono ?_)
  rintro e w' ⟨rfl,q,rfl⟩
  refine ⟨_,rfl,⟨_,_,rfl,fun j hj=>⟨gb,rfl,?_⟩⟩,?_⟩
  ·
   have:=cell?_putRow encStr (Sort.ahead w q) gb 0 ls.toArray (r++List.replicate (ls.toArray.size - r.length) []).toArray (holds_ahead _ _ _ _ _ _ hH) (by simp; omega) j (by simp; omega)
   rw [Nat.zero_add] at this
   rw [this,getElem!_pos _ j (by simp; omega)]
   simp [List.getElem_append_left hj,tx7,encStr]
  ·
   have hg:=grownBy_sorted (w:=w) (g:=gb) (n:=q) (os:=#[]) (r++List.replicate (ls.toArray.size - r.length) []).toArray
   rw [grow_empty] at hg
   exact (Below.refl base w).grown hg hbase (fun k hk=>by cases hk; exact hbg)

def liE (pre:List UInt8):Int:=xX [zi (uM pre) 10]
def liL (L:zl) (pre:List UInt8):List (List UInt8):=if liE pre=0 then YG (L.map (·.1)) pre else []

theorem one_row7 (W:World) (g:Nat) (lb:Array Value) (n:Int) (h:YK (.func (.func g) #[] lb) n W):uE (W.alloc (.cells #[.func (.func g) #[] lb] 222)) W.heap.size [(.func (.func g) #[] lb,n)]:=by
 obtain ⟨G,l,e,h1,h2⟩:=Zz W [(.func (.func g) #[] lb,n)] 222 (by intro x hx; obtain rfl:=List.mem_singleton.1 hx; exact h)
 exact ⟨by simp,fun j hj=>by
  have hj0:j=0:=by simpa using hj
  subst hj0
  exact ⟨by simp,h.later (zb (Below.refl _ _) _)⟩⟩

set_option maxRecDepth 100000 in
theorem list7_calls (B:Nat) (p:Option Nat) (L:zl) (pre:ByteArray) (w:World) (hd:vh w B p L) (hp:pre.size≤9223372036854775807) :
  Calls Tryz.prog 384 #[.pointer (some ⟨B,0,none⟩),.string pre] w fun e w'=>∃ v,e=.returned (.tuple #[v,.int .i64 (liE pre.data.toList)])∧Jw w' v (liL L pre.data.toList)∧Below w.heap.size w w':=by
 have hmf:=mkf
 have bl:=zb (Below.refl w.heap.size w) (.cells #[.string pre] 9)
 have HP:=za (XW pre (w.alloc (.cells #[.string pre] 9)) hp)
 have HX:Hid ((w.alloc (.cells #[.string pre] 9)).cell? ⟨w.heap.size,0,none⟩=some (.string pre)):=by show _=_; simp
 have HBL:=za bl
 have HD:=za (hd.later bl)
 have hlt:w.heap.size<(w.alloc (.cells #[.string pre] 9)).heap.size:=by simp
 clear hd bl
 obtain ⟨r,hr⟩:∃ r,r=liE pre.data.toList:=⟨_,rfl⟩
 rw [← hr]
 have HR:Hid (xX [zi (uM pre.data.toList) 10]=r):=hr.symm
 have HL:Hid (liL L pre.data.toList=if r=0 then YG (L.map (·.1)) pre.data.toList else []):=by rw [hr]; rfl
 clear hr
 generalize zi (uM pre.data.toList) 10=e0 at *
 go_enter Tryz.func384,Tryz.ntmps384
 go_wp2_with fail
 generalize w.alloc (.cells #[.string pre] 9)=w1 at *
 generalize hC:w.heap.size=C at *
 with_reducible refine HP.out.mono ?_
 rintro e w2 ⟨g,lb,rfl,ha,hb⟩
 have HB2:=za hb
 have hf:=qx w2.heap.size 1 1 _ _ rfl (by decide) (one_row7 w2 g lb e0 ha)
 have HF:Hid (Calls Tryz.prog 144 #[.slice (some ⟨w2.heap.size,0,none⟩) 1 1] (w2.alloc (.cells #[.func (.func g) #[] lb] 222)) (yG r (w2.alloc (.cells #[.func (.func g) #[] lb] 222)))):=by
  rw [← HR.out]; exact hf
 clear hf ha hb HP HR
 go_wp2_with fail
 with_reducible refine HF.out.mono ?_
 rintro e w3 ⟨rfl,hb⟩
 have HB3:=za (z7 HB2.out (z7 (zb (Below.refl w2.heap.size w2) _) hb))
 clear hb HF HB2
 by_cases h0:r=0
 ·
  subst h0
  have HN:=za (Yw B p L w3 (HD.out.later HB3.out))
  go_wp2_with fail
  with_reducible refine HN.out.mono ?_
  rintro e w4 ⟨v,rfl,hrow,_,hb⟩
  have hlen:(L.map (·.1)).length=L.length:=List.length_map ..
  rw [← hlen] at hrow
  obtain ⟨A,c,rfl,_⟩:=Jw.of_own hrow
  have hd2:=delf7_calls w3.heap.size C _ (L.map (·.1)) pre w4 (((z7 HB3.out hb).cell (p:=⟨C,0,none⟩) hlt).trans HX.out) (Nat.lt_of_lt_of_le hlt HB3.out.size) hb.size hrow
  rw [hlen] at hd2
  have HD2:=za hd2
  have HB4:=za (z7 HB3.out hb)
  have HB34:=za hb
  clear hb hrow HN hlen hd2
  go_wp2_with fail
  with_reducible refine HD2.out.mono ?_
  rintro e w5 ⟨v',rfl,hv',hb⟩
  have HV:=za hv'
  have HB5:=za (show Below w.heap.size w w5 by subst hC; exact z7 HBL.out (HB3.out.trans ((HB34.out.trans hb).mono (HB3.out.size))))
  obtain ⟨A',c',rfl,_⟩:=hv'
  clear hb HD2
  go_wp2
  refine bodyPost_ret (v:=.tuple #[.slice A' (YG (L.map (·.1)) pre.data.toList).length c',.int .i64 0]) (by simp [results,Tryz.results384,go_sem]) rfl ⟨_,rfl,?_,HB5.out⟩
  rw [HL.out]
  first | rw [if_pos rfl] | rw [if_pos trivial]
  exact HV.out
 ·
  have h1:(r != 0)=true:=by simpa using h0
  go_wp2
  refine bodyPost_ret (v:=.tuple #[.slice none 0 0,.int .i64 r]) (by simp [results,Tryz.results384,go_sem]) rfl ⟨_,rfl,?_,by subst hC; exact z7 HBL.out HB3.out⟩
  rw [HL.out,if_neg h0]
  exact Jw.nil _

theorem askrow7_new (W:World) (l:List (Value×Int)) (t:TypeId) (ha:∀ x∈l,YK x.1 x.2 W):uE (W.alloc (.cells (l.map (·.1)).toArray t)) W.heap.size l:=by
  refine ⟨by simp,fun j hj=>⟨?_,(ha _ (List.getElem_mem hj)).later (zb (Below.refl _ _) _)⟩⟩
  rw [World.cell?_alloc_at _ _ _ _ rfl]
  simp [hj]

def loS (L:zl) (n:List UInt8):List UInt8:=if deE L n=0 then yM L n else []

set_option maxRecDepth 100000 in
theorem Zh (B:Nat) (p:Option Nat) (L:zl) (n:ByteArray) (w:World) (hd:vh w B p L) (hn:n.size≤9223372036854775807) :
    Calls Tryz.prog 403 #[.pointer (some ⟨B,0,none⟩),.string n] w fun e w'=>e=.returned (.tuple #[.string (tx7 (loS L n.data.toList)),.int .i64 (deE L n.data.toList)])∧Below w.heap.size w w':=by
  have hn':n.size≤maxLen:=Nat.le_trans hn (by decide)
  have HN:=za (uN n w hn)
  have HI:Hid (∀ W,vh W B p L→Calls Tryz.prog 392 #[.pointer (some ⟨B,0,none⟩),.string n] W (vN (zi (yE L n.data.toList) 8) W)):=fun W hD=>qG B p L n W hD hn'
  have HL:Hid (∀ W,vh W B p L→(Instr.lookup 118 (.map p) (.string n) false).run Tryz.prog W=.ok (.string (tx7 (yM L n.data.toList))) W):=fun W hD=>look71 hD n hn'
  obtain ⟨r,hr⟩:∃ r,r=deE L n.data.toList:=⟨_,rfl⟩
  have HS:Hid (loS L n.data.toList=if r=0 then yM L n.data.toList else []):=by rw [hr]; rfl
  rw [← hr]
  have HR:Hid (xX [zi (zh n.data.toList) 10,zi (yE L n.data.toList) 8]=r):=hr.symm
  have HD:=za hd
  clear hr hd
  generalize zi (zh n.data.toList) 10=e0 at *
  generalize zi (yE L n.data.toList) 8=e1 at *
  generalize loS L n.data.toList=s at *
  generalize yM L n.data.toList=s' at *
  go_enter Tryz.func403,Tryz.ntmps403
  go_wp2_with fail
  with_reducible refine HN.out.mono ?_
  rintro e w1 ⟨g0,lb0,rfl,ha,hb⟩
  have HA0:=za ha
  have HB1:=za hb
  have HI1:=za (HI.out w1 (HD.out.later hb))
  clear ha hb HN HI
  go_wp2_with fail
  with_reducible refine HI1.out.mono ?_
  rintro e w2 ⟨g1,lb1,rfl,ha,hb⟩
  have HB2:=za (z7 HB1.out hb)
  have hrow:=askrow7_new w2 [(.func (.func g0) #[] lb0,e0),(.func (.func g1) #[] lb1,e1)] 222 (by
    intro x hx
    simp only [List.mem_cons,List.not_mem_nil,or_false] at hx
    rcases hx with rfl | rfl
    · exact HA0.out.later hb
    · exact ha)
  have hf:=qx w2.heap.size 2 2 _ _ rfl (by decide) hrow
  have HF:Hid (Calls Tryz.prog 144 #[.slice (some ⟨w2.heap.size,0,none⟩) 2 2] (w2.alloc (.cells #[.func (.func g0) #[] lb0,.func (.func g1) #[] lb1] 222)) (yG r (w2.alloc (.cells #[.func (.func g0) #[] lb0,.func (.func g1) #[] lb1] 222)))):=by
    rw [← HR.out]; exact hf
  clear hf hrow ha hb HI1 HA0 HR
  go_wp2_with fail
  with_reducible refine HF.out.mono ?_
  rintro e w3 ⟨rfl,hb⟩
  have HB3:=za (z7 HB2.out (z7 (zb (Below.refl w2.heap.size w2) _) hb))
  clear hb HF HB2 HB1
  by_cases h0:r=0
  · have hl:=HL.out w3 (HD.out.later HB3.out)
    have hc:=(HD.out.later HB3.out).cell
    have HS2:=HS.out
    rw [if_pos h0] at HS2
    subst h0
    subst HS2
    clear HS HL HD
    go_wp2
    go_ret2
    exact ⟨rfl,HB3.out⟩
  · have h1:(r != 0)=true:=by simpa using h0
    have HS2:=HS.out
    rw [if_neg h0] at HS2
    subst HS2
    clear HS HL HD
    go_wp2
    go_ret2
    exact ⟨rfl,HB3.out⟩

def Apart7 (L:zl) (w:World) (e:Ending) (w':World):Prop :=
  ∃ B p,e=.returned (.pointer (some ⟨B,0,none⟩))∧vh w' B p L∧w.heap.size≤B∧(∀ b,p=some b→w.heap.size≤b)∧Below w.heap.size w w'

set_option maxRecDepth 100000 in
theorem copy7_calls (B:Nat) (p:Option Nat) (L:zl) (w:World) (hd:vh w B p L):Calls Tryz.prog 306 #[.pointer (some ⟨B,0,none⟩)] w (Apart7 L w):=by
  have HC:Hid (Calls Tryz.prog 309 #[.map p] w fun e w'=>∃ p',e=.returned (.map p')∧(p'=none→L=[])∧(∀ b,p'=some b→fA w' b L∧w.heap.size≤b)∧Below w.heap.size w w'):=by
    cases p with
    | none=>exact (AnyW.maps_Clone_nil Tryz.clone7 w).mono fun e w' ⟨he,hw⟩=>⟨none,he,fun _=>hd.nil rfl,(fun _ h=>nomatch h),by rw [hw]; exact Below.refl _ _⟩
    | some b =>
      refine (AnyW.maps_Clone_owns Tryz.clone7 9 _ b _ _ w (hd.map b rfl)).mono fun e w' ⟨he,h1,_,hb⟩=>⟨_,he,(fun h=>nomatch h),fun b' hb'=>?_,hb⟩
      cases hb'
      exact ⟨h1,Nat.le_refl _⟩
  have hc:=hd.cell
  have HR:=za hd
  clear hd
  go_enter Tryz.func306,Tryz.ntmps306
  go_wp2_with fail
  with_reducible refine HC.out.mono ?_
  rintro e w1 ⟨p',rfl,h1,h2,hb⟩
  have HF:Hid (Apart7 L w (.returned (.pointer (some ⟨w1.heap.size,0,none⟩))) (w1.alloc (.cells #[.map p'] 120))):=by
    have hb2:=zb (Below.refl w1.heap.size w1) (.cells #[.map p'] 120)
    refine ⟨_,p',rfl,⟨(MapKept.heap_alloc w1 _).1,h1,fun b hb'=>(h2 b hb').1.kept (hb2.block b (h2 b hb').1.lt),HR.out.rise,HR.out.few,HR.out.all⟩,hb.size,fun b hb'=>(h2 b hb').2,z7 hb hb2⟩
  clear h1 h2 hb HC hc HR
  go_wp2
  go_ret
  exact HF.out

/-! ### All -/
def usr7 (q:List UInt8×List UInt8):List Value:=[.string (tx7 q.1),.string (tx7 q.2),.string ⟨#[]⟩,.bool false,.slice none 0 0]
theorem usr7_at (L:zl) (j i:Nat) (hj:j<L.length) (hi:i<5):(L.flatMap usr7)[j * 5+i]? = (usr7 L[j])[i]? := by
  induction L generalizing j with
  | nil=>exact absurd hj (Nat.not_lt_zero _)
  | cons q L ih =>
    rw [List.flatMap_cons]
    cases j with
    | zero =>
      rw [List.getElem?_append_left (by simp [usr7]; omega)]
      simp
    | succ j =>
      rw [List.getElem?_append_right (by simp [usr7]; omega)]
      have:=ih j (by simpa using hj)
      rw [show (j+1) * 5+i - (usr7 q).length=j * 5+i by simp [usr7]; omega,this]
      simp
theorem rows_apart {w:World} {b1 b2 s1 s2 n1 n2:Nat} {e1 e2:TypeId} {v1 v2:Value} {xs1 xs2:List Value} (h1:w.ownsRow b1 e1 s1 v1 n1 xs1) (h2:w.ownsRow b2 e2 s2 v2 n2 xs2) (he:e1≠e2):v1.ownBlock=none∨v1.ownBlock≠v2.ownBlock:=by
  rcases h1.2 with ⟨rfl,_⟩ | ⟨g,cap,cur,rfl,_,hg,_⟩
  · exact .inl rfl
  · rcases h2.2 with ⟨rfl,_⟩ | ⟨g2,cap2,cur2,rfl,_,hg2,_⟩
    · exact .inr (by simp [Value.ownBlock])
    · refine .inr fun e=>?_
      have:g=g2:=by simpa [Value.ownBlock] using e
      subst this
      rw [hg] at hg2
      injection hg2 with h
      injection h with _ h
      exact he h
theorem infoUser7:(Tryz.prog.info? 192).map (fun i=>(i.zero,i.size,i.bytes))=some (some (.agg #[.string ⟨#[]⟩,.string ⟨#[]⟩,.string ⟨#[]⟩,.bool false,.slice none 0 0]),5,80):=by kernel_rfl

def Users7 (L:zl) (base:Nat) (w:World) (v:Value):Prop:=w.ownsRow base 192 5 v L.length (L.flatMap usr7)

set_option maxRecDepth 100000 in
theorem UY (B:Nat) (p:Option Nat) (L:zl) (w:World) (hd:vh w B p L):Calls Tryz.prog 180 #[.pointer (some ⟨B,0,none⟩)] w fun e w'=>∃ v,e=.returned v∧Users7 L w.heap.size w' v∧Below w.heap.size w w':=by
  have HN:=za (Yw B p L w hd)
  have HD:=za hd
  have hfew:=hd.few
  have HLK:Hid (∀ W,vh W B p L→∀ s:ByteArray,s.size≤maxLen→(Instr.lookup 118 (.map p) (.string s) false).run Tryz.prog W=.ok (.string (tx7 (yM L s.data.toList))) W):=fun W hD s hs=>look71 hD s hs
  clear hd
  obtain ⟨i0,hi,hz0,hz1,hz2⟩:=info_parts infoUser7
  obtain ⟨n,hn⟩:∃ n,n=L.length:=⟨_,rfl⟩
  have HLN:Hid (L.length=n):=hn.symm
  rw [← hn] at hfew
  clear hn
  go_enter Tryz.func180,Tryz.ntmps180
  go_wp2_with fail
  with_reducible refine HN.out.mono ?_
  rintro e w1 ⟨v,rfl,hrow,_,hb⟩
  have hlen:(L.map (·.1)).length=n:=by rw [List.length_map]; exact HLN.out
  rw [HLN.out,← hlen] at hrow
  obtain ⟨A,c,rfl,_⟩:=Jw.of_own hrow
  have HRW:=za hrow
  rw [hlen] at HRW ⊢
  have HB:=za hb
  have HLE:=za hlen
  clear hb hrow HN hlen
  go_wp2
  go_loopg [3,5,9] n (fun gg s3 _ s9 wr=>∃ k:Nat,k≤n∧n - k≤gg∧s9=.int .i64 k∧Hid (Below w.heap.size w wr)∧Hid (wr.ownsRow w.heap.size 9 1 (.slice A n c) n ((L.map (·.1)).map encStr))∧Hid (wr.ownsRow w.heap.size 192 5 s3 k ((L.take k).flatMap usr7)))
  case atStart=>exact ⟨0,Nat.zero_le _,by omega,rfl,HB,HRW,World.ownsRow_nil _ _ _ _⟩
  case round =>
    obtain ⟨k,hk,hg,rfl,HW,HR2,HU⟩:=hrel
    by_cases hlt:k<n
    · have hltz:(k:Int)<(n:Int):=by omega
      have hkl:k<L.length:=by have:=HLN.out; omega
      have hr2:=HR2.out
      have hle:=HLE.out
      obtain ⟨A',c',e1,hcs⟩:=Jw.of_own (ls:=L.map (·.1)) (by rw [hle]; exact hr2)
      injection e1 with e1 e2 e3
      subst e1
      subst e3
      clear e2
      obtain ⟨g,rfl,hcell⟩:=hcs k (by rw [hle]; exact hlt)
      have hnm:(L.map (·.1))[k]'(by rw [hle]; exact hlt)=L[k].1:=by simp
      rw [hnm] at hcell
      have hDw:=HD.out.later HW.out
      have hc:=hDw.cell
      have hlk:=HLK.out wr hDw (tx7 L[k].1) (by
        have:=(HD.out.all L[k] (List.getElem_mem hkl)).1
        rw [← zx,xz]
        exact Nat.le_trans this (by decide))
      rw [xz] at hlk
      have hget:yM L L[k].1=L[k].2:=jG HD.out.rise (List.getElem_mem hkl)
      rw [hget] at hlk
      have hne:=rows_apart hr2 HU.out (by decide)
      have HT:Hid ((L.take (k+1)).flatMap usr7=(L.take k).flatMap usr7++[.string (tx7 L[k].1),.string (tx7 L[k].2),.string ⟨#[]⟩,.bool false,.slice none 0 0]):=by
        show _=_
        rw [List.take_succ_eq_append_getElem hkl,List.flatMap_append]
        simp [usr7]
      have HNE:=za hne
      generalize tx7 L[k].1=sn at *
      generalize tx7 L[k].2=sh at *
      clear hcs hnm hDw hget hr2 hle hne
      go_wp2_with (first
        | (at_builtin; refine wpList_append_own _ rfl _ _ 28 rfl w.heap.size 192 i0 (.agg #[.string ⟨#[]⟩,.string ⟨#[]⟩,.string ⟨#[]⟩,.bool false,.slice none 0 0]) 5 80 Tryz.underlying28 hi hz0 hz1 hz2 rfl (by decide) _ _ _ rfl (HU.out.alloc _) ⟨wr.heap.size,0,none⟩ 1 1 [.string sn,.string sh,.string ⟨#[]⟩,.bool false,.slice none 0 0] rfl rfl
            (fun j u hu=>by rw [Addr.add_lit,Nat.zero_add,World.cell?_alloc_at _ _ _ _ rfl]; simpa using hu) (by simp [Value.oneCell']) (by unfold maxLen; omega) (by omega) (by have:=HW.out.size; simp; omega) ?_
           intro v' w2 hown' hgrow _
           have HO:=za hown'
           have HG:=za hgrow
           clear hown' hgrow)
        | fail)
      go_roundg (n - (k+1))
      case measure=>omega
      case rel =>
        have hg1:wr.grownBy (wr.alloc (.cells #[.string sn,.string sh,.string ⟨#[]⟩,.bool false,.slice none 0 0] 192)) none:=World.grownBy_alloc _ _ _
        refine ⟨k+1,by omega,by omega,by go_num,(show Hid _ from ?_),(show Hid _ from ?_),(show Hid _ from by rw [HT.out]; exact HO.out)⟩
        · exact (z7 HW.out (zb (Below.refl _ _) _)).grown HG.out (by have:=HW.out.size; simp; omega) (fun j hj=>(HU.out.lt j hj).1)
        · exact (HR2.out.alloc _).kept HG.out HNE.out
    · have hltz:¬ (k:Int)<(n:Int):=by omega
      obtain rfl:k=n:=by omega
      go_wp2
      go_ret
      refine ⟨_,rfl,?_,HW.out⟩
      have hu:=HU.out
      have hl:=HLN.out
      rw [List.take_of_length_le (by omega)] at hu
      unfold Users7
      rw [hl]
      exact hu

def ZG (W w':World):Prop:=∀ (k:Nat) (c:Array Value) (T:TypeId) (fr:Nat×Nat),W.heap[k]? = some (.cells c T fr)→T≠120→w'.heap[k]? = some (.cells c T fr)
theorem ZG.of_below {W w':World} (hb:Below W.heap.size W w'):ZG W w':=fun k _ _ _ h _=>(hb.block k (Array.getElem?_eq_some_iff.1 h).1).trans h
theorem ZG.trans {a b c:World} (h:ZG a b) (k:ZG b c):ZG a c:=fun i x T fr hi hT=>k i x T fr (h i x T fr hi hT) hT
theorem yU.keeps {W w':World} {B:Nat} {p:Option Nat} {L L':zl} (hd:vh W B p L) (hg:yU W B p L' w'):ZG W w':=by
 obtain ⟨_,_,_,ht⟩:=hg
 intro k c T fr hk hT
 refine (ht.block k (Array.getElem?_eq_some_iff.1 hk).1 ?_).trans hk
 rintro (rfl | e)
 ·
  rw [hd.blk] at hk
  injection hk with hk
  injection hk with _ h
  exact hT h.symm
 ·
  obtain ⟨es,clock,h1,_⟩:=hd.map k e
  rw [h1] at hk
  cases hk

def fz (w0 W:World) (B:Nat) (L:zl):Prop:=∃ p,vh W B p L∧w0.heap.size≤B∧(∀ b,p=some b→w0.heap.size≤b)∧Below w0.heap.size w0 W
section
variable {w0 W W':World} {B:Nat} {L:zl}
theorem fz.below (h:fz w0 W B L):Below w0.heap.size w0 W:=by obtain ⟨_,_,_,_,h⟩:=h; exact h
theorem fz.few (h:fz w0 W B L):L.length≤12:=by obtain ⟨_,h,_⟩:=h; exact h.few
theorem fz.rise (h:fz w0 W B L):uy L:=by obtain ⟨_,h,_⟩:=h; exact h.rise
theorem fz.all (h:fz w0 W B L):∀ q∈L,q.1.length≤12∧q.2.length≤12:=by obtain ⟨_,h,_⟩:=h; exact h.all
theorem fz.later (h:fz w0 W B L) (hb:Below W.heap.size W W'):fz w0 W' B L:=by
 obtain ⟨p,hd,h1,h2,h3⟩:=h
 exact ⟨p,hd.later hb,h1,h2,z7 h3 hb⟩
theorem fz.goes {L':zl} {p:Option Nat} (hd:vh W B p L) (h1:w0.heap.size≤B) (h2:∀ b,p=some b→w0.heap.size≤b) (h3:Below w0.heap.size w0 W) (hg:yU W B p L' W'):fz w0 W' B L':=by
 obtain ⟨p',hd',hp,ht⟩:=hg
 refine ⟨p',hd',h1,fun b hb=>?_,h3.trans (ht.below_at h3.size ?_)⟩
 ·
  rcases hp b hb with h | h
  ·
   exact h2 b h
  ·
   exact Nat.le_trans h3.size h
 ·
  rintro i (rfl | e)
  ·
   exact h1
  ·
   exact h2 i e

def Deed7 (w0 W:World) (B:Nat) (n:Int) (L':zl) (e:Ending) (w':World):Prop:=e=.returned (.int .i64 n)∧fz w0 w' B L'∧ZG W w'
theorem fz.create (h:fz w0 W B L) (n s:ByteArray) (hn:n.size≤9223372036854775807) (hs:s.size≤9223372036854775807) :
  Calls Tryz.prog 382 #[.pointer (some ⟨B,0,none⟩),.string n,.string s] W (Deed7 w0 W B (crE L n.data.toList s.data.toList) (crL L n.data.toList s.data.toList)):=by
 obtain ⟨p,hd,h1,h2,h3⟩:=h
 exact (Zw B p L n s W hd hn hs).mono fun e w' ⟨he,hg⟩=>⟨he,fz.goes hd h1 h2 h3 hg,hg.keeps hd⟩
theorem fz.delete (h:fz w0 W B L) (n:ByteArray) (hn:n.size≤9223372036854775807) :
  Calls Tryz.prog 383 #[.pointer (some ⟨B,0,none⟩),.string n] W (Deed7 w0 W B (deE L n.data.toList) (deL L n.data.toList)):=by
 obtain ⟨p,hd,h1,h2,h3⟩:=h
 exact (Zu B p L n W hd hn).mono fun e w' ⟨he,hg⟩=>⟨he,fz.goes hd h1 h2 h3 hg,hg.keeps hd⟩
theorem fz.len (h:fz w0 W B L):Calls Tryz.prog 301 #[.pointer (some ⟨B,0,none⟩)] W fun e w'=>e=.returned (.int .i64 L.length)∧w'=W:=by
 obtain ⟨p,hd,_⟩:=h
 exact UF B p L W hd
theorem fz.lookup (h:fz w0 W B L) (n:ByteArray) (hn:n.size≤9223372036854775807) :
  Calls Tryz.prog 403 #[.pointer (some ⟨B,0,none⟩),.string n] W fun e w'=>e=.returned (.tuple #[.string (tx7 (loS L n.data.toList)),.int .i64 (deE L n.data.toList)])∧Below W.heap.size W w':=by
 obtain ⟨p,hd,_⟩:=h
 exact Zh B p L n W hd hn
theorem fz.allu (h:fz w0 W B L):Calls Tryz.prog 180 #[.pointer (some ⟨B,0,none⟩)] W fun e w'=>∃ v,e=.returned v∧Users7 L W.heap.size w' v∧Below W.heap.size W w':=by
 obtain ⟨p,hd,_⟩:=h
 exact UY B p L W hd
end

def mayE:List Us→Int
 | []=>0
 | u::r=>if uQ 1 u=0 then mayE r else uQ 1 u
def rowU (l:List Us):zl:=l.map fun u=>(u.nm.data.toList,u.hs.data.toList)
def ofE (l:List Us):Int:=xX [mayE l,zi (yh (l.map (·.nm))) 9,zi (decide ((l.length:Int)≤12)) 7]




theorem fz.put {w0 W:World} {B:Nat} {L:zl} (h:fz w0 W B L) (s hh:ByteArray) (hs:s.size≤12) (h2:hh.size≤12) (hf:(vl L s.data.toList hh.data.toList).length≤12) :
  Calls Tryz.prog 148 #[.pointer (some ⟨B,0,none⟩),.string s,.string hh] W fun e w'=>e=.returned (.tuple #[])∧fz w0 w' B (vl L s.data.toList hh.data.toList)∧ZG W w':=by
 obtain ⟨p,hd,g1,g2,g3⟩:=h
 exact (Ye B p L s hh W hd hs h2 hf).mono fun e w' ⟨he,hg⟩=>⟨he,fz.goes hd g1 g2 g3 hg,hg.keeps hd⟩




def Us7 (w:World) (v:Value) (L:zl):Prop:=∃ A c,v=.slice A L.length c∧∀ j (h:j<L.length),∃ g,A=some ⟨g,0,none⟩∧∀ i u,(usr7 L[j])[i]? = some u→w.cell? ⟨g,j * 5+i,none⟩=some u
theorem Us7.later {w w':World} {v:Value} {L:zl} (h:Us7 w v L) (hb:Below w.heap.size w w'):Us7 w' v L:=by
 obtain ⟨A,c,e,hc⟩:=h
 exact ⟨A,c,e,fun j hj=>by obtain ⟨g,e,h⟩:=hc j hj; exact ⟨g,e,fun i u hu=>(hb.cell (p:=⟨g,j * 5+i,none⟩) (World.block_lt_of_cell? w _ (h i u hu))).trans (h i u hu)⟩⟩
theorem Us7.of_users {w:World} {base:Nat} {v:Value} {L:zl} (h:Users7 L base w v):Us7 w v L:=by
 have hs:∃ A c,v=.slice A L.length c:=by
  rcases h.2 with ⟨rfl,h0⟩ | ⟨g,cap,cur,rfl,_⟩
  ·
   exact ⟨none,0,by rw [h0]⟩
  ·
   exact ⟨_,_,rfl⟩
 obtain ⟨A,c,rfl⟩:=hs
 refine ⟨A,c,rfl,fun j hj=>?_⟩
 rcases h.2 with ⟨_,h0⟩ | ⟨g,cap,cur,e1,_⟩
 ·
  omega
 ·
  injection e1 with e1
  subst e1
  refine ⟨g,rfl,fun i u hu=>?_⟩
  have hi:i<5:=(List.getElem?_eq_some_iff.1 hu).1
  have:=World.ownsRow.cells h (g:=g) rfl (j * 5+i) u (by rw [usr7_at L j i hj hi]; exact hu)
  rw [Addr.add_lit,Nat.zero_add] at this
  exact this

def xy (q:List UInt8×List UInt8):Us:=⟨tx7 q.1,tx7 q.2,⟨#[]⟩,false,none,[],0⟩
theorem bare7_ok {q:List UInt8×List UInt8} {w:World} (h:q.1.length≤12∧q.2.length≤12):(xy q).Ok w:=by
 have s1:(tx7 q.1).size≤12:=by rw [← zx]; simpa [tx7] using h.1
 have s2:(tx7 q.2).size≤12:=by rw [← zx]; simpa [tx7] using h.2
 exact { rd:=fun h=>absurd rfl h,nm:=Nat.le_trans s1 (by decide),hs:=Nat.le_trans s2 (by decide),ml:=Nat.zero_le _,nil:=fun _=>rfl,len:=Nat.le_refl _,cap:=Nat.zero_le _,all:=fun s hs=>by cases hs }
theorem Us7.rd {w:World} {A:Option Addr} {c n:Nat} {Lx:zl} (h:Us7 w (.slice A n c) Lx):n=(Lx.map xy).length∧RdU7 w A (Lx.map xy):=by
 obtain ⟨A',c',e,hc⟩:=h
 injection e with e1 e2 e3
 subst e1 e2 e3
 refine ⟨by simp,fun hne=>?_⟩
 have h0:0<Lx.length:=by
  rcases Lx with _ | ⟨q,r⟩
  ·
   exact absurd rfl hne
  ·
   exact Nat.succ_pos _
 obtain ⟨g,e,hg⟩:=hc 0 h0
 refine ⟨g,0,e,World.block_lt_of_cell? w _ (hg 0 _ rfl),fun i hi j u hu=>?_⟩
 have hi':i<Lx.length:=by simpa using hi
 obtain ⟨g',e',hg'⟩:=hc i hi'
 rw [e] at e'
 injection e' with e'
 injection e' with e'
 subst e'
 have hu':(usr7 Lx[i])[j]? = some u:=by
  rw [List.getElem_map] at hu
  have:(xy Lx[i]).cells=(usr7 Lx[i]).toArray:=rfl
  rw [this] at hu
  simpa using hu
 have:=hg' j u hu'
 rwa [Nat.zero_add]

def vR (l:List Us):List Value:=l.flatMap fun u=>u.cells.toList
theorem fZ (l:List Us):(vR l).length=l.length * 5:=by
 induction l with
 | nil=>rfl
 | cons u l ih =>
  have:vR (u::l)=u.cells.toList++vR l:=rfl
  rw [this,List.length_append,ih,List.length_cons]
  have:u.cells.toList.length=5:=rfl
  omega
theorem Xd (l:List Us) (i j:Nat) (hi:i<l.length) (hj:j<5):(vR l)[i * 5+j]? = l[i].cells[j]? := by
 induction l generalizing i with
 | nil=>exact absurd hi (Nat.not_lt_zero _)
 | cons u l ih =>
  have e:vR (u::l)=u.cells.toList++vR l:=rfl
  have h5:u.cells.toList.length=5:=rfl
  rw [e]
  cases i with
  | zero =>
   rw [List.getElem?_append_left (by omega),Nat.zero_mul,Nat.zero_add]
   simp
  | succ i =>
   rw [List.getElem?_append_right (by omega),h5,show (i+1) * 5+j - 5=i * 5+j by omega]
   exact ih i (by simpa using hi)
theorem RdU7.src {w:World} {A:Option Addr} {l:List Us} (h:RdU7 w A l) (c:Nat):Src Tryz.prog 5 28 (.slice A l.length c) l.length (vR l) w:=by
 have hk:Tryz.prog.underlying 28=some (.slice 192):=Tryz.underlying28
 by_cases hl:l=[]
 ·
  subst hl
  cases A with
  | none=>exact Src.ofNil w hk c
  | some ad=>exact Src.ofSlice w hk ad 0 c [] rfl (fun j u hu=>by simp at hu) (fun u hu=>by cases hu)
 ·
  obtain ⟨b,off,rfl,_,hc⟩:=h hl
  refine Src.ofSlice w hk ⟨b,off,none⟩ l.length c _ (fZ l) (fun j u hu=>?_) (fun u hu=>?_)
  ·
   have hlt:j<(vR l).length:=(List.getElem?_eq_some_iff.1 hu).1
   rw [fZ] at hlt
   have hi:j / 5<l.length:=by omega
   have hj:j / 5 * 5+j % 5=j:=by omega
   have h5:j % 5<5:=by omega
   have:=Xd l (j / 5) (j % 5) hi h5
   rw [hj,hu] at this
   have h2:=hc (j / 5) hi (j % 5) u this.symm
   rw [Addr.add_lit]
   rwa [show off+j / 5 * 5+j % 5=off+j by omega] at h2
  ·
   unfold vR at hu
   rw [List.mem_flatMap] at hu
   obtain ⟨x,_,hx⟩:=hu
   simp only [Us.cells,List.mem_cons,List.not_mem_nil,or_false] at hx
   rcases hx with rfl | rfl | rfl | rfl | rfl <;> rfl
theorem owns_users {w:World} {b0 n c:Nat} {A:Option Addr} {l:List Us} (ho:w.ownsRow b0 192 5 (.slice A n c) n (vR l)) (hn:n=l.length):RdU7 w A l:=by
 intro hl
 have hp:0<l.length:=List.length_pos_iff.2 hl
 obtain ⟨g,cap,hv,_,hg⟩:=ho.form (by omega)
 injection hv with hA _ hc
 subst hA hc
 refine ⟨g,0,rfl,hg,fun i hi j u hu=>?_⟩
 have h5:j<5:=by
  have:=(Array.getElem?_eq_some_iff.1 hu).1
  exact this
 have:=ho.cellAt (i * 5+j) (by omega)
 rw [Xd l i j hi h5,hu] at this
 rwa [Nat.zero_add]


structure Lo7 (w:World) (B:Nat) (p:Option Nat) (L:zl) (v:Value) (n o:Nat) (W:World):Prop where
 bel:Below w.heap.size w W
 dir:vh W B p L
 row:∃ xs,W.ownsRow 0 192 5 v n xs∧∀ i,i<n→∃ s,xs[i * 5+o]? = some (.string s)
 far:∀ k,v.ownBlock=some k→w.heap.size≤k∧B≠k∧p≠some k
theorem Lo7.below {w W W':World} {B:Nat} {p:Option Nat} {L:zl} {v:Value} {n o:Nat} (h:Lo7 w B p L v n o W) (hb:Below W.heap.size W W'):Lo7 w B p L v n o W':=by
 obtain ⟨xs,ho,hx⟩:=h.row
 exact ⟨z7 h.bel hb,h.dir.later hb,⟨xs,(zg.of_below hb (fun _=>False)).owns ho (fun _ _ f=>f),hx⟩,h.far⟩
theorem Lo7.form {w W:World} {B:Nat} {p:Option Nat} {L:zl} {A:Option Addr} {n c o:Nat} (h:Lo7 w B p L (.slice A n c) n o W) (hn:0<n):∃ g,A=some ⟨g,0,none⟩:=by
 obtain ⟨xs,ho,_⟩:=h.row
 obtain ⟨g,cap,hv,_,_⟩:=ho.form hn
 injection hv with hA
 exact ⟨g,hA⟩
theorem Lo7.store {w W:World} {B:Nat} {p:Option Nat} {L:zl} {g n c o:Nat} (h:Lo7 w B p L (.slice (some ⟨g,0,none⟩) n c) n o W) (ho5:o<5) (k:Nat) (hk:k<n) (s:ByteArray) :
  (∃ x,W.cell? ⟨g,k * 5+o,none⟩=some (.string x))∧W.frozen? ⟨g,k * 5+o,none⟩=false∧Lo7 w B p L (.slice (some ⟨g,0,none⟩) n c) n o (W.setCell ⟨g,k * 5+o,none⟩ (.string s)):=by
 obtain ⟨xs,ho,hx⟩:=h.row
 obtain ⟨h1,h2,h3⟩:=h.far g rfl
 have hc:=ho.cellAt (k * 5+o) (by omega)
 obtain ⟨x,hxk⟩:=hx k hk
 rw [hxk] at hc
 have ht:zg (fun i=>i=g) W (W.setCell ⟨g,k * 5+o,none⟩ (.string s)):=(zg.refl (fun i=>i=g) W).setCell (p:=⟨g,k * 5+o,none⟩) (fun _=>rfl) _
 refine ⟨⟨x,hc⟩,ho.frozenAt _,h.bel.setCell (p:=⟨g,k * 5+o,none⟩) h1 _,h.dir.turns ht h2 (fun b hb e=>h3 (by rw [hb,e])),⟨_,(ho.stored (k * 5+o) (.string s)).1,fun i hi=>?_⟩,h.far⟩
 rw [List.getElem?_set]
 split
 ·
  split
  ·
   exact ⟨s,rfl⟩
  ·
   next he hlt =>
   obtain ⟨y,hy⟩:=hx i hi
   have:=(List.getElem?_eq_some_iff.1 hy).1
   omega
 ·
  exact hx i hi
theorem JA (L:zl):L.flatMap usr7=vR (L.map xy):=by
 unfold vR
 rw [List.flatMap_map]
 rfl





theorem Us7.at_ {w:World} {A:Option Addr} {c n:Nat} {L:zl} (h:Us7 w (.slice A n c) L) (k:Nat) (hk:k<L.length) :
  ∃ g,A=some ⟨g,0,none⟩∧w.cell? ⟨g,k * 5,none⟩=some (.string (tx7 L[k].1))∧w.cell? ⟨g,k * 5+1,none⟩=some (.string (tx7 L[k].2))∧w.cell? ⟨g,k * 5+2,none⟩=some (.string ⟨#[]⟩)∧w.cell? ⟨g,k * 5+3,none⟩=some (.bool false)∧w.cell? ⟨g,k * 5+4,none⟩=some (.slice none 0 0):=by
 obtain ⟨A',c',e,hc⟩:=h
 injection e with e1 e2 e3
 obtain ⟨g,eg,hcell⟩:=hc k hk
 exact ⟨g,by rw [e1,eg],hcell 0 _ rfl,hcell 1 _ rfl,hcell 2 _ rfl,hcell 3 _ rfl,hcell 4 _ rfl⟩
theorem Us7.shape {w:World} {v:Value} {L:zl} (h:Us7 w v L):∃ A c,v=.slice A L.length c:=by
 obtain ⟨A,c,e,_⟩:=h
 exact ⟨A,c,e⟩




structure UsC7 (w:World) (B:Nat) (s h:ByteArray):Prop where
 lt:B<w.heap.size
 c0:w.cell? ⟨B,0,none⟩=some (.string s)
 c1:w.cell? ⟨B,1,none⟩=some (.string h)
 c2:w.cell? ⟨B,2,none⟩=some (.string ⟨#[]⟩)
 c3:w.cell? ⟨B,3,none⟩=some (.bool false)
 c4:w.cell? ⟨B,4,none⟩=some (.slice none 0 0)
theorem UsC7.of_heap {w W:World} {B:Nat} {s h:ByteArray} (hx:UsC7 w B s h) (he:W.heap[B]? = w.heap[B]?):UsC7 W B s h:=by
 have hB:=hx.lt
 have hc:∀ i,W.cell? ⟨B,i,none⟩=w.cell? ⟨B,i,none⟩:=fun i=>World.cell?_of_block he
 refine ⟨?_,(hc 0).trans hx.c0,(hc 1).trans hx.c1,(hc 2).trans hx.c2,(hc 3).trans hx.c3,(hc 4).trans hx.c4⟩
 rw [Array.getElem?_eq_getElem hB] at he
 exact (Array.getElem?_eq_some_iff.1 he).1
theorem UsC7.below_at {w W:World} {B:Nat} {s h:ByteArray} (hx:UsC7 w B s h) {n:Nat} (hn:B<n) (hb:Below n w W):UsC7 W B s h:=hx.of_heap (hb.block B hn)





/-! ### held against each other -/


end Go.Proofs.YteegkoicalbkbaaGreatDoor
