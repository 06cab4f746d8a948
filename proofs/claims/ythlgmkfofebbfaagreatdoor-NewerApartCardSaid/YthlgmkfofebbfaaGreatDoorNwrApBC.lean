/-
  The texts that the laws of this seat share, part 3: what the code and the document's own answers tell, walked function by function.
  Conditions: each theorem's own.
-/
import Derived.Shelf.Small.Bits
import Derived.Shelf.Small.Strs
import Derived.Shelf.Strconv.Itoa0
import Derived.Shelf.LaysM
import Derived.Shelf.Strconv.Clone
import Derived.Shelf.Strings.Search1
import Derived.Shelf.Strings.Search2
import Derived.Shelf.Strings.Search3
import Derived.Shelf.Strings.Cut
import Derived.Shelf.Strings.Count
import Derived.Shelf.Strings.Shaped
import Derived.Shelf.Strings.Prefix
import Derived.Shelf.Strings.Split
import Derived.Shelf.Strings.SplitShaped
import Derived.Shelf.Unicode.DecodeSlow
import Derived.Shelf.Slices.Equal
import Derived.Shelf.Slices.Empties2
import Derived.Ground.SlgnProg
import Derived.Shelf.SlicesE.Equal
import Derived.Ground.SlgfProg
import Derived.Shelf.SlicesE.IndexFunc
import Derived.Shelf.SlicesE.DeleteFunc
import Derived.Ground.SlsfProg
import Derived.Shelf.SlSortCmp.Insertion
import Derived.Shelf.SlSortCmp.SiftDown1
import Derived.Shelf.SlSortCmp.HeapSort1
import Derived.Shelf.SlSortCmp.Insertion1
import Derived.Shelf.SlSortCmp.Median1
import Derived.Shelf.SlSortCmp.Pivot1
import Derived.Shelf.SlSortCmp.ReverseRange1
import Derived.Shelf.SlSortCmp.PartialInsertion1
import Derived.Shelf.SlSortCmp.PartitionEqual1
import Derived.Shelf.SlSortCmp.Partition1
import Derived.Shelf.SlSortCmp.Pdq1
import Derived.Shelf.SlSortCmp.Whole1
import Derived.Shelf.SlSortCmp.NoneTotal
import Derived.Test.YthlgmkfofebbfaaGreatDoorProg
import Derived.Sort.OwnSorted
import Derived.Maps.RangeWalk
import Derived.Maps.AppendAt
import Derived.WalkSpells
import Derived.WalkLawsBesides
import Derived.Lib.Hide
import Derived.KernelRfl
import Derived.Lib.SliceRun
import Derived.BigQuiet
import Derived.Test.YthlgmkfofebbfaaGreatDoorNwrApBA
import Derived.Test.YthlgmkfofebbfaaGreatDoorNwrApBB
namespace Go.Proofs
open Go.Shelf
def Tryz.laysSlF06_f149_ren : Go.Shelf.Ren := ⟨fun | 6 => 149 | 15 => 171 | 14 => 170 | 28 => 192 | 29 => 193 | 20 => 184 | 21 => 185 | 22 => 186 | 23 => 187 | 24 => 188 | 25 => 189 | 26 => 190 | 27 => 191 | 46 => 205 | 47 => 206 | 48 => 207 | 49 => 208 | 50 => 209 | 57 => 215 | n => n, fun | 22 => 28 | 24 => 9 | 25 => 130 | 3 => 3 | 39 => 174 | 0 => 0 | 53 => 192 | 55 => 194 | 4 => 4 | 46 => 185 | 45 => 184 | 50 => 189 | 5 => 5 | 9 => 9 | 66 => 200 | 70 => 204 | 76 => 210 | 77 => 211 | n => n, fun | n => n⟩
theorem Tryz.laysSlF06_f149 : Go.Proofs.SlLaysF0.n6 Tryz.prog Tryz.laysSlF06_f149_ren := {
 mixed := by kernel_rfl
 f6 := ⟨Tryz.f149.name, by decide, Tryz.func149.trans (congrArg some (by kernel_rfl))⟩
 f14 := ⟨Tryz.f170.name, by decide, Tryz.func170.trans (congrArg some (by kernel_rfl))⟩
 f15 := Tryz.func171.trans (congrArg some (by kernel_rfl))
 f20 := ⟨Tryz.f184.name, by decide, Tryz.func184.trans (congrArg some (by kernel_rfl))⟩
 f21 := ⟨Tryz.f185.name, by decide, Tryz.func185.trans (congrArg some (by kernel_rfl))⟩
 f22 := ⟨Tryz.f186.name, by decide, Tryz.func186.trans (congrArg some (by kernel_rfl))⟩
 f23 := ⟨Tryz.f187.name, by decide, Tryz.func187.trans (congrArg some (by kernel_rfl))⟩
 f24 := ⟨Tryz.f188.name, by decide, Tryz.func188.trans (congrArg some (by kernel_rfl))⟩
 f25 := ⟨Tryz.f189.name, by decide, Tryz.func189.trans (congrArg some (by kernel_rfl))⟩
 f26 := ⟨Tryz.f190.name, by decide, Tryz.func190.trans (congrArg some (by kernel_rfl))⟩
 f27 := ⟨Tryz.f191.name, by decide, Tryz.func191.trans (congrArg some (by kernel_rfl))⟩
 f28 := Tryz.func192.trans (congrArg some (by kernel_rfl))
 f29 := Tryz.func193.trans (congrArg some (by kernel_rfl))
 f46 := ⟨Tryz.f205.name, by decide, Tryz.func205.trans (congrArg some (by kernel_rfl))⟩
 f47 := Tryz.func206.trans (congrArg some (by kernel_rfl))
 f48 := Tryz.func207.trans (congrArg some (by kernel_rfl))
 f49 := ⟨Tryz.f208.name, by decide, Tryz.func208.trans (congrArg some (by kernel_rfl))⟩
 f50 := ⟨Tryz.f209.name, by decide, Tryz.func209.trans (congrArg some (by kernel_rfl))⟩
 f57 := ⟨Tryz.f215.name, by decide, Tryz.func215.trans (congrArg some (by kernel_rfl))⟩
 t0 := Tryz.underlying0
 a0 := Tryz.isAgg0
 z0 := Tryz.sizeOf0
 v0 := Tryz.zeroValue0
 t3 := Tryz.underlying3
 a3 := Tryz.isAgg3
 z3 := Tryz.sizeOf3
 v3 := Tryz.zeroValue3
 t4 := Tryz.underlying4
 a4 := Tryz.isAgg4
 z4 := Tryz.sizeOf4
 v4 := Tryz.zeroValue4
 t5 := Tryz.underlying5
 a5 := Tryz.isAgg5
 z5 := Tryz.sizeOf5
 v5 := Tryz.zeroValue5
 t9 := Tryz.underlying9
 a9 := Tryz.isAgg9
 z9 := Tryz.sizeOf9
 v9 := Tryz.zeroValue9
 t22 := Tryz.underlying28
 a22 := Tryz.isAgg28
 z22 := Tryz.sizeOf28
 v22 := Tryz.zeroValue28
 t25 := Tryz.underlying130
 a25 := Tryz.isAgg130
 z25 := Tryz.sizeOf130
 v25 := Tryz.zeroValue130
 t39 := Tryz.underlying174
 a39 := Tryz.isAgg174
 z39 := Tryz.sizeOf174
 v39 := Tryz.zeroValue174
 t45 := Tryz.underlying184
 a45 := Tryz.isAgg184
 z45 := Tryz.sizeOf184
 v45 := Tryz.zeroValue184
 t46 := Tryz.underlying185
 a46 := Tryz.isAgg185
 z46 := Tryz.sizeOf185
 v46 := Tryz.zeroValue185
 t50 := Tryz.underlying189
 a50 := Tryz.isAgg189
 z50 := Tryz.sizeOf189
 v50 := Tryz.zeroValue189
 t53 := Tryz.underlying192
 a53 := Tryz.isAgg192
 z53 := Tryz.sizeOf192
 v53 := Tryz.zeroValue192
 t55 := Tryz.underlying194
 a55 := Tryz.isAgg194
 z55 := Tryz.sizeOf194
 v55 := Tryz.zeroValue194
 t66 := Tryz.underlying200
 a66 := Tryz.isAgg200
 z66 := Tryz.sizeOf200
 v66 := Tryz.zeroValue200
 t70 := Tryz.underlying204
 a70 := Tryz.isAgg204
 z70 := Tryz.sizeOf204
 v70 := Tryz.zeroValue204
 t76 := Tryz.underlying210
 a76 := Tryz.isAgg210
 z76 := Tryz.sizeOf210
 v76 := Tryz.zeroValue210
 t77 := Tryz.underlying211
 a77 := Tryz.isAgg211
 z77 := Tryz.sizeOf211
 v77 := Tryz.zeroValue211 }
open Go.RowKit Go.Lib Go.Sort in
theorem Tryz.slices_SortFunc_none {α : Type} [Inhabited α] (p : Option Addr) (cap : Nat) (fv : Value) (w : World) :
  Calls Tryz.prog 149 #[.slice p 0 cap, fv] w fun e w' => e = .returned (.tuple #[]) ∧ w' = w := AnyF.slices_SortFunc_none Tryz.laysSlF06_f149 p cap fv w
def Tryz.laysSlF6_f149_ren : Go.Shelf.Ren := ⟨fun | 6 => 149 | 15 => 171 | 14 => 170 | 28 => 192 | 29 => 193 | 20 => 184 | 21 => 185 | 22 => 186 | 23 => 187 | 24 => 188 | 25 => 189 | 26 => 190 | 27 => 191 | 46 => 205 | 47 => 206 | 48 => 207 | 49 => 208 | 50 => 209 | 57 => 215 | n => n, fun | 22 => 28 | 24 => 9 | 25 => 130 | 3 => 3 | 39 => 174 | 0 => 0 | 53 => 192 | 55 => 194 | 4 => 4 | 46 => 185 | 45 => 184 | 50 => 189 | 5 => 5 | 9 => 9 | 66 => 200 | 70 => 204 | 76 => 210 | 77 => 211 | n => n, fun | n => n⟩
theorem Tryz.laysSlF6_f149 : Go.Proofs.SlLaysF.n6 Tryz.prog Tryz.laysSlF6_f149_ren := {
 mixed := by kernel_rfl
 f6 := ⟨Tryz.f149.name, by decide, Tryz.func149.trans (congrArg some (by kernel_rfl))⟩
 f14 := ⟨Tryz.f170.name, by decide, Tryz.func170.trans (congrArg some (by kernel_rfl))⟩
 f15 := Tryz.func171.trans (congrArg some (by kernel_rfl))
 f20 := ⟨Tryz.f184.name, by decide, Tryz.func184.trans (congrArg some (by kernel_rfl))⟩
 f21 := ⟨Tryz.f185.name, by decide, Tryz.func185.trans (congrArg some (by kernel_rfl))⟩
 f22 := ⟨Tryz.f186.name, by decide, Tryz.func186.trans (congrArg some (by kernel_rfl))⟩
 f23 := ⟨Tryz.f187.name, by decide, Tryz.func187.trans (congrArg some (by kernel_rfl))⟩
 f24 := ⟨Tryz.f188.name, by decide, Tryz.func188.trans (congrArg some (by kernel_rfl))⟩
 f25 := ⟨Tryz.f189.name, by decide, Tryz.func189.trans (congrArg some (by kernel_rfl))⟩
 f26 := ⟨Tryz.f190.name, by decide, Tryz.func190.trans (congrArg some (by kernel_rfl))⟩
 f27 := ⟨Tryz.f191.name, by decide, Tryz.func191.trans (congrArg some (by kernel_rfl))⟩
 f28 := Tryz.func192.trans (congrArg some (by kernel_rfl))
 f29 := Tryz.func193.trans (congrArg some (by kernel_rfl))
 f46 := ⟨Tryz.f205.name, by decide, Tryz.func205.trans (congrArg some (by kernel_rfl))⟩
 f47 := Tryz.func206.trans (congrArg some (by kernel_rfl))
 f48 := Tryz.func207.trans (congrArg some (by kernel_rfl))
 f49 := ⟨Tryz.f208.name, by decide, Tryz.func208.trans (congrArg some (by kernel_rfl))⟩
 f50 := ⟨Tryz.f209.name, by decide, Tryz.func209.trans (congrArg some (by kernel_rfl))⟩
 f57 := ⟨Tryz.f215.name, by decide, Tryz.func215.trans (congrArg some (by kernel_rfl))⟩
 t0 := Tryz.underlying0
 a0 := Tryz.isAgg0
 z0 := Tryz.sizeOf0
 v0 := Tryz.zeroValue0
 t3 := Tryz.underlying3
 a3 := Tryz.isAgg3
 z3 := Tryz.sizeOf3
 v3 := Tryz.zeroValue3
 t4 := Tryz.underlying4
 a4 := Tryz.isAgg4
 z4 := Tryz.sizeOf4
 v4 := Tryz.zeroValue4
 t5 := Tryz.underlying5
 a5 := Tryz.isAgg5
 z5 := Tryz.sizeOf5
 v5 := Tryz.zeroValue5
 t9 := Tryz.underlying9
 a9 := Tryz.isAgg9
 z9 := Tryz.sizeOf9
 v9 := Tryz.zeroValue9
 t22 := Tryz.underlying28
 a22 := Tryz.isAgg28
 z22 := Tryz.sizeOf28
 v22 := Tryz.zeroValue28
 a24 := Tryz.isAgg9
 z24 := Tryz.sizeOf9
 t25 := Tryz.underlying130
 a25 := Tryz.isAgg130
 z25 := Tryz.sizeOf130
 v25 := Tryz.zeroValue130
 t39 := Tryz.underlying174
 a39 := Tryz.isAgg174
 z39 := Tryz.sizeOf174
 v39 := Tryz.zeroValue174
 t45 := Tryz.underlying184
 a45 := Tryz.isAgg184
 z45 := Tryz.sizeOf184
 v45 := Tryz.zeroValue184
 t46 := Tryz.underlying185
 a46 := Tryz.isAgg185
 z46 := Tryz.sizeOf185
 v46 := Tryz.zeroValue185
 t50 := Tryz.underlying189
 a50 := Tryz.isAgg189
 z50 := Tryz.sizeOf189
 v50 := Tryz.zeroValue189
 t53 := Tryz.underlying192
 a53 := Tryz.isAgg192
 z53 := Tryz.sizeOf192
 v53 := Tryz.zeroValue192
 t55 := Tryz.underlying194
 a55 := Tryz.isAgg194
 z55 := Tryz.sizeOf194
 v55 := Tryz.zeroValue194
 t66 := Tryz.underlying200
 a66 := Tryz.isAgg200
 z66 := Tryz.sizeOf200
 v66 := Tryz.zeroValue200
 t70 := Tryz.underlying204
 a70 := Tryz.isAgg204
 z70 := Tryz.sizeOf204
 v70 := Tryz.zeroValue204
 t76 := Tryz.underlying210
 a76 := Tryz.isAgg210
 z76 := Tryz.sizeOf210
 v76 := Tryz.zeroValue210
 t77 := Tryz.underlying211
 a77 := Tryz.isAgg211
 z77 := Tryz.sizeOf211
 v77 := Tryz.zeroValue211 }
open Go.RowKit Go.Lib Go.Sort in
theorem Tryz.slices_SortFunc_total {α : Type} [Inhabited α] (enc : α → Value) (h1 : OneCell enc) (cf : α → α → Int) (hO : SWO (ltOf cf)) (g : Nat) (cb : Array Value) (blk off cap : Nat) (d : Array α) (w : World) (eg : ∀ args w, (callFunc g args).run Tryz.prog w = .ok (.enter g args) w) (hcmp : CmpLays1 Tryz.prog g cb enc cf blk off d.size w) (hH : Holds enc w blk off d) (hblk : blk < w.heap.size) (hsz : d.size < 4611686018427387904) (hT : ∀ x y, (ltOf cf) x y = false → (ltOf cf) y x = false → x = y) :
  Calls Tryz.prog 149 #[.slice (some ⟨blk, off, none⟩) d.size cap, .func (.func g) #[] cb] w fun e w' =>
   e = .returned (.tuple #[]) ∧ ∃ n os, w' = sortWorld enc w blk off n (d.toList.mergeSort fun x y => !(ltOf cf) y x).toArray os := Any.slices_SortFunc_total Tryz.laysSlF6_f149 enc h1 cf hO g cb blk off cap d w eg hcmp hH hblk hsz hT
end Go.Proofs


namespace Go.Proofs.YthlgmkfofebbfaaGreatDoor
open Go.RowKit Go.Maps Go.Sort Go.Shelf

theorem lt10 (x y : List UInt8) : ltOf Lib.compareBytes x y = bytesBefore x y := before_cmp x y
theorem swo10 : SWO (ltOf Lib.compareBytes) where
 irrefl x := by rw [lt10]; exact before_irrefl x
 trans x y z h1 h2 := by rw [lt10] at *; exact WideShapes.bytes_trans _ _ _ h1 h2
 ntrans x y z h1 h2 := by
  rw [lt10] at *
  cases h : bytesBefore x z
  ·
   rfl
  ·
   by_cases e : x = y
   ·
    subst e; rw [h] at h2; cases h2
   ·
    rcases WideAt.bytes_total x y e with h' | h'
    ·
     rw [h'] at h1; cases h1
    ·
     rw [WideShapes.bytes_trans _ _ _ h' h] at h2; cases h2
theorem tot10 (x y : List UInt8) (h1 : ltOf Lib.compareBytes x y = false) (h2 : ltOf Lib.compareBytes y x = false) : x = y := by
 rw [lt10] at *
 by_cases e : x = y
 ·
  exact e
 ·
  rcases WideAt.bytes_total x y e with h' | h'
  ·
   rw [h'] at h1; cases h1
  ·
   rw [h'] at h2; cases h2
set_option maxRecDepth 100000 in
theorem compare10_calls (a b : ByteArray) (w : World) :
  Calls Tryz.prog 121 #[.string a, .string b] w fun e w' => e = .returned (.int .i64 (Lib.compareBytes a.data.toList b.data.toList)) ∧ w' = w := by
 have HC := Lib.hid (Tryz.strings_Compare a b w)
 generalize Lib.compareBytes a.data.toList b.data.toList = r at *
 go_enter Tryz.func121, Tryz.ntmps121
 go_wp2_with fail
 with_reducible refine HC.out.mono ?_
 rintro e w1 ⟨rfl, rfl⟩
 go_wp2
 go_ret
 exact ⟨rfl, rfl⟩
theorem cmp10 (blk off size : Nat) (w : World) : CmpLays1 Tryz.prog 121 #[] encStr Lib.compareBytes blk off size w :=
 CmpReads.lays fun _ _ _ _ x y => (compare10_calls ⟨x.toArray⟩ ⟨y.toArray⟩ _).mono fun e w' ⟨he, hw⟩ => ⟨by rw [he], 0, hw⟩
theorem sort10_calls (blk cap : Nat) (ss ls : List (List UInt8)) (W : World) (hr : RiseT ls) (hp : ss.Perm ls) (hH : Holds encStr W blk 0 ss.toArray) (hb : blk < W.heap.size) (hl : ss.length < 4611686018427387904) :
  Calls Tryz.prog 149 #[.slice (some ⟨blk, 0, none⟩) ss.length cap, .func (.func 121) #[] #[]] W fun e w' => e = .returned (.tuple #[]) ∧ ∃ n os, w' = grow (putRow encStr (Sort.ahead W n) blk 0 ls.toArray) os := by
 have := Tryz.slices_SortFunc_total encStr (fun _ => rfl) Lib.compareBytes swo10 121 #[] blk 0 cap ss.toArray W (enters_of Tryz.func121 (by kernel_rfl) rfl) (cmp10 blk 0 _ W) hH hb (by simpa using hl) tot10
 rw [← sort_rise hr hp (fun x y => !(ltOf Lib.compareBytes) y x) (fun x y => by rw [lt10])]
 simpa [sortWorld] using this
theorem sort10_none (cap : Nat) (W : World) : Calls Tryz.prog 149 #[.slice none 0 cap, .func (.func 121) #[] #[]] W fun e w' => e = .returned (.tuple #[]) ∧ w' = W :=
 Tryz.slices_SortFunc_none (α := List UInt8) none cap _ W

end Go.Proofs.YthlgmkfofebbfaaGreatDoor


namespace Go.Proofs.YthlgmkfofebbfaaGreatDoor
open Go.RowKit Go.Maps Go.Sort Go.Shelf

def Coll10 {V : Type} (T : RowV V) (q : List UInt8 × V → Bool) (left : Lit → Bool) (ss : List (List UInt8)) : Prop := ss.Nodup ∧ ∀ x, x ∈ ss ↔ ∃ p ∈ T, p.1 = x ∧ q p = true ∧ left (.string x) = false
section
variable {V : Type} {T : RowV V} {q : List UInt8 × V → Bool} {left : Lit → Bool} {ss : List (List UInt8)}
theorem Coll10.start (e : V → DataW Unit) : Coll10 T q (Maps.has (datV e T)) [] := ⟨List.nodup_nil, fun x => by
 constructor
 ·
  intro h; cases h
 ·
  rintro ⟨p, hp, rfl, _, h⟩
  rw [datV_has, hasV_iff.2 ⟨p, hp, rfl⟩] at h
  cases h⟩
theorem coll10_at {e : V → DataW Unit} (hr : RiseV T) {x : List UInt8} {y : DataW Unit} (hat : ∀ zd, (datV e T).atKey (.string x) zd = y) : ∃ p ∈ T, p.1 = x ∧ e p.2 = y := by
 have h1 : Maps.has (datV e T) (.string x) = true := has_true_of_atKey hat
 rw [datV_has] at h1
 obtain ⟨v, hv⟩ := getV_has h1
 have h2 := hat .nil
 rw [atV_some _ hv] at h2
 exact ⟨(x, v), (getV_some hr).1 hv, rfl, h2⟩
theorem Coll10.hit (h : Coll10 T q left ss) {p : List UInt8 × V} (hp : p ∈ T) (hq : q p = true) (hlk : left (.string p.1) = true) : Coll10 T q (fun z => left z && !z.sameKey (.string p.1)) (ss ++ [p.1]) := by
 have hnew : p.1 ∉ ss := fun hx => by obtain ⟨_, _, _, _, h'⟩ := (h.2 _).1 hx; rw [hlk] at h'; cases h'
 refine ⟨List.nodup_append.2 ⟨h.1, by simp, fun a ha b hb => by simp at hb; subst hb; exact fun e => hnew (e ▸ ha)⟩, fun y => ?_⟩
 by_cases hy : y = p.1
 ·
  subst hy
  constructor
  ·
   intro _; exact ⟨p, hp, rfl, hq, by simp [Lit.sameKey]⟩
  ·
   intro _; simp
 ·
  simp [h.2 y, hy, Lit.sameKey]
theorem Coll10.miss (hr : RiseV T) (h : Coll10 T q left ss) {p : List UInt8 × V} (hp : p ∈ T) (hq : q p = false) : Coll10 T q (fun z => left z && !z.sameKey (.string p.1)) ss := by
 refine ⟨h.1, fun y => ?_⟩
 rw [h.2 y]
 refine exists_congr fun p' => and_congr_right fun hp' => and_congr_right fun e => and_congr_right fun hq' => ?_
 have : y ≠ p.1 := fun ey => by
  have := riseV_one hr hp' hp (e.trans ey)
  rw [this, hq] at hq'
  cases hq'
 simp [Lit.sameKey, this]
theorem Coll10.perm (hr : RiseV T) (h : Coll10 T q left ss) (hl : ∀ kl, left kl = false) : ss.Perm (names10 (T.filter q)) := by
 refine (List.perm_ext_iff_of_nodup h.1 ?_).2 fun x => ?_
 ·
  have h1 : RiseT (names10 (T.filter q)) := RiseV.names (hr.filter _)
  exact h1.imp fun {a b} hab e => by subst e; rw [before_irrefl] at hab; cases hab
 ·
  rw [h.2 x]
  unfold names10
  simp only [List.mem_map, List.mem_filter, hl]
  constructor
  ·
   rintro ⟨p, hp, rfl, hq, _⟩; exact ⟨p, ⟨hp, hq⟩, rfl⟩
  ·
   rintro ⟨p, ⟨hp, hq⟩, rfl⟩; exact ⟨p, hp, rfl, hq, trivial⟩
end
theorem ranges_below10 {w w' : World} {P : Program} {k : TypeId} {R : Value → Option (DataW Unit × List MemPlace)} {b r n : Nat} {D : DataW Unit} {left : Lit → Bool} {cnt : Nat} (h : w.ranges P k R b r n D left cnt) (hb : Below w.heap.size w w') : w'.ranges P k R b r n D left cnt := by
 have h1 := h.owns.lt
 have h2 := h.lt
 obtain ⟨es, clock, since, seen, c0, hb', F, hs, hD, hr, rest⟩ := h
 exact ⟨es, clock, since, seen, c0, (hb.block b h1).trans hb', F, hs, hD, (hb.block r h2).trans hr, rest⟩
theorem infoStr10 : (Tryz.prog.info? 9).map (fun i => (i.zero, i.size, i.bytes)) = some (some (.string ⟨#[]⟩), 1, 16) := by kernel_rfl

def mkb10 (n : Nat) : Value := .bool (n == 0)
theorem mkb10_ex (c : Bool) : ∃ n, Value.bool c = mkb10 n := by
 cases c
 ·
  exact ⟨1, rfl⟩
 ·
  exact ⟨0, rfl⟩

def Names10 (ls : List (List UInt8)) (w : World) (e : Ending) (w' : World) : Prop :=
 ∃ v, e = .returned v ∧ w'.ownsRow w.heap.size 9 1 v ls.length (ls.map encStr) ∧ Below w.heap.size w w'
theorem ownsRow_low10 {w : World} {a b : Nat} {e size n : Nat} {v : Value} {xs : List Value} (h : w.ownsRow b e size v n xs) (hab : a ≤ b) : w.ownsRow a e size v n xs := by
 refine ⟨h.1, ?_⟩
 rcases h.2 with hn | ⟨g, cap, cur, e1, h0, hg, hr⟩
 ·
  exact .inl hn
 ·
  exact .inr ⟨g, cap, cur, e1, Nat.le_trans hab h0, hg, hr⟩
theorem ownsRow_below10 {w w' : World} {b : Nat} {e size n : Nat} {v : Value} {xs : List Value} (h : w.ownsRow b e size v n xs) (hb : Below w.heap.size w w') : w'.ownsRow b e size v n xs := by
 refine ⟨h.1, ?_⟩
 rcases h.2 with hn | ⟨g, cap, cur, e1, h0, hg, hr⟩
 ·
  exact .inl hn
 ·
  exact .inr ⟨g, cap, cur, e1, h0, (hb.block g (Array.getElem?_eq_some_iff.1 hg).1).trans hg, hr⟩

set_option maxRecDepth 100000 in
set_option maxHeartbeats 2000000 in
theorem rises10_calls (b : Nat) (T : RowV (Nat × Set10)) (q : List UInt8 × (Nat × Set10) → Bool) (av : Value) (w : World) (hr : RiseV T) (hf : T.length ≤ 1000) (hown : w.ownsMap Tryz.prog 9 (R10) b T.length (datV eb10 T))
  (hev : ∀ W, Below w.heap.size w W → ∀ x ∈ T, Calls Tryz.prog 165 #[.map (some x.2.1), av] W (Tells5 (q x) W)) :
  Calls Tryz.prog 139 #[.map (some b), av] w (Names10 (names10 (T.filter q)) w) := by
 obtain ⟨i0, hi, hz0, hz1, hz2⟩ := info_parts infoStr10
 have hbl := hown.lt
 have HEV := Lib.hid hev
 have HR := Lib.hid hr
 clear hev hr
 have hsz : Maps.size (datV eb10 T) = T.length := datV_size eb10 T
 have HSRT : Hid (∀ blk cap (ss ls : List (List UInt8)) (W : World), RiseT ls → ss.Perm ls → Holds encStr W blk 0 ss.toArray → blk < W.heap.size → ss.length < 4611686018427387904 → Calls Tryz.prog 149 #[.slice (some ⟨blk, 0, none⟩) ss.length cap, .func (.func 121) #[] #[]] W fun e w' => e = .returned (.tuple #[]) ∧ ∃ n os, w' = grow (putRow encStr (Sort.ahead W n) blk 0 ls.toArray) os) := sort10_calls
 have HSRT0 : Hid (∀ cap W, Calls Tryz.prog 149 #[.slice none 0 cap, .func (.func 121) #[] #[]] W fun e w' => e = .returned (.tuple #[]) ∧ w' = W) := sort10_none
 go_enter Tryz.func139, Tryz.ntmps139
 go_wp2_with (first
  | (at_range; refine wpList_range_own _ rfl _ 102 rfl 9 132 keyed10 Tryz.underlying102 _ b _ _ rfl hown ?_; intro w0 hrg0 hg0 hs0)
  | go_in)
 go_frame
 rw [hsz] at hrg0
 have hs1 : w0.heap.size = w.heap.size + 1 := hs0
 obtain ⟨len, hlen⟩ : ∃ len, len = T.length := ⟨_, rfl⟩
 rw [← hlen] at hrg0 hf
 have HLN := Lib.hid hlen
 clear hs0 hown hlen hsz
 go_loopw [5] (fun v wr => ∃ (left : Lit → Bool) (cnt : Nat) (ss : List (List UInt8)), Hid (wr.ranges Tryz.prog 9 (R10) b w.heap.size len (datV eb10 T) left cnt) ∧ ss.length + cnt ≤ len ∧
   Hid (wr.ownsRow w.heap.size 9 1 v ss.length (ss.map encStr)) ∧ Hid (Coll10 T q left ss) ∧ Hid (Below w.heap.size w wr))
  (fun _ wr => wr.rangeLeft b w.heap.size)
 case atStart =>
  exact ⟨_, _, [], hrg0, by simp, World.ownsRow_nil _ _ _ _, Coll10.start eb10, (Below.refl _ _).grown hg0 (Nat.le_refl _) (fun j hj => by cases hj)⟩
 case round =>
  obtain ⟨left, cnt, ss, HRG, hcs, HROW, HC, HNX⟩ := hrel
  have hrg := HRG.out
  go_wp2_with (first
   | (at_next; refine wpList_next_ranges _ rfl _ rfl 9 keyed10 (R10) encStr Value.map (fun key kl hk => by obtain ⟨x, hx, _⟩ := Maps.keyOf_str Tryz.underlying9 hk; exact ⟨x, hx⟩) (fun v y hv => by obtain ⟨c, rfl, _⟩ := r10_inv hv; exact ⟨c, rfl⟩) b w.heap.size len _ _ _ rfl hrg ?_ ?_)
   | go_in)
  ·
   intro hc0 hl0
   have hp := HC.out.perm HR.out hl0
   have hrt : RiseT (names10 (T.filter q)) := RiseV.names (HR.out.filter _)
   have hpl := hp.length_eq
   have hrow := HROW.out
   rcases hrow.2 with ⟨hnil, hz⟩ | ⟨g, cap, cur, rfl, hbase, hgb, r1, r2, r3, r4⟩
   ·
    subst hnil
    have hss : ss = [] := List.eq_nil_of_length_eq_zero hz
    subst hss
    have hne : names10 (T.filter q) = [] := List.eq_nil_of_length_eq_zero hpl.symm
    have HF : Hid (Names10 (names10 (T.filter q)) w (.returned (.slice none 0 0)) wr) := by
     rw [hne]
     exact ⟨_, rfl, World.ownsRow_nil _ _ _ _, HNX.out⟩
    clear hrow hz hne hpl hrt hp hrg hl0
    go_wp2_with (go_at_call 149; (with_reducible refine (HSRT0.out _ _).mono ?_); rintro e w' ⟨rfl, rfl⟩)
    go_ret
    exact HF.out
   ·
    have hH : Holds encStr wr g 0 ss.toArray := holds_of_block hgb (by simpa using r4)
    have hgl : g < wr.heap.size := (Array.getElem?_eq_some_iff.1 hgb).1
    have cS := Lib.hid (HSRT.out g cap ss _ wr hrt hp hH hgl (by omega))
    have HF : Hid (∀ n os, Names10 (names10 (T.filter q)) w (.returned (.slice (some ⟨g, 0, none⟩) ss.length cap)) (grow (putRow encStr (Sort.ahead wr n) g 0 (names10 (T.filter q)).toArray) os)) := fun n os => by
     refine ⟨_, rfl, ?_, HNX.out.grown (grownBy_sorted _) HNX.out.size (fun j hj => by cases hj; exact hbase)⟩
     have := ownsRow_sorted (ts := names10 (T.filter q)) (n := n) (os := os) hpl.symm hbase hgb r1 r2 r3
     rw [← hpl]; exact this
    clear hrow hbase hgb r1 r2 r3 r4 hH hgl hpl hp hrt hrg hl0
    generalize ss.length = n at *
    go_wp2_with (go_at_call 149; (with_reducible refine cS.out.mono ?_); rintro e w' ⟨rfl, nn, os, rfl⟩)
    go_ret
    exact HF.out nn os
  ·
   intro x c kl yd yp w2 cnt2 hkey hlk hv hat hrg2 hlt hg2 hs2 hen
   obtain ⟨x', ex, rfl, _⟩ := Maps.keyOf_str Tryz.underlying9 hkey
   obtain rfl : x = x' := encStr_inj ex
   obtain ⟨p, hpT, rfl, hpe⟩ := coll10_at HR.out hat
   obtain rfl : (some p.2.1) = c := by
    obtain ⟨o, ho, hz⟩ := r10_inv hv
    have e1 : c = o := by injection ho
    have e2 : ob10 (some p.2.1) = ob10 o := hpe.trans hz
    rw [e1]; exact ob10_inj e2
   have hnx2 : Below w.heap.size w w2 := HNX.out.grown hg2 HNX.out.size (fun j hj => by cases hj; exact Nat.le_refl _)
   have hrow2 := HROW.out.kept hg2 (Or.inr (row_ne_iter HROW.out hrg).symm)
   have HEV2 := Lib.hid (HEV.out w2 hnx2 p hpT)
   have HNX2 := Lib.hid hnx2
   have HROW2 := Lib.hid hrow2
   have HRG2 := Lib.hid hrg2
   have hkz : (fun l : List UInt8 => (Value.string ⟨l.toArray⟩)) p.1 = encStr p.1 := rfl
   have HLT : Hid (cnt2 < wr.rangeLeft b w.heap.size) := by rw [show wr.rangeLeft b w.heap.size = cnt from hrg.left_eq]; exact hlt
   have HPT := Lib.hid hpT
   have HLK := Lib.hid hlk
   clear hs2 hnx2 hrow2 hrg2 hkz hpT hat hv hpe hkey hg2 HROW HRG hrg HNX HEV hlk
   have hlt2 : ss.length + cnt2 + 1 ≤ len := by omega
   have hkv : encStr p.1 = .string (tx10 p.1) := rfl
   have HKV := Lib.hid hkv
   rw [hkv] at hen ⊢
   clear hkv
   cases hq : q p with
   | true =>
    rw [hq] at HEV2
    have HC2 := Lib.hid (HC.out.hit HPT.out hq HLK.out)
    clear HC hq HLK
    generalize tx10 p.1 = kv at *
    go_wp2_with (first
     | (go_at_call 165; (with_reducible refine HEV2.out.mono ?_); rintro e w3 ⟨rfl, hb3⟩; have HROW3 := Lib.hid (ownsRow_below10 HROW2.out hb3); have HRG3 := Lib.hid (ranges_below10 HRG2.out hb3); have HNX3 := Lib.hid (below_next HNX2.out hb3); clear hb3)
     | (at_builtin; refine wpList_append_own _ rfl _ _ 28 rfl w.heap.size 9 i0 (.string ⟨#[]⟩) 1 16 Tryz.underlying28 hi hz0 hz1 hz2 rfl (by decide) _ _ _ rfl (HROW3.out.alloc _) ⟨w3.heap.size, 0, none⟩ 1 1 [.string kv] rfl rfl (cell_one_new _ _ _) (by simp [Value.oneCell']) (by unfold maxLen at *; omega) (by omega) (by have := HNX3.out.size; simp; omega) ?_; intro v' w4 hown' hg4 hnil4; have HOW := Lib.hid hown'; have HG4 := Lib.hid hg4; clear hown' hg4 hnil4; go_frame)
     | go_in)
    have HRG4 := Lib.hid ((HRG3.out.alloc _).kept HG4.out (row_ne_low HROW3.out hbl) (row_ne_iter HROW3.out HRG3.out))
    have ho := HOW.out
    rw [← HKV.out] at ho
    have HB4 := Lib.hid ((below_next HNX3.out (below_alloc (Below.refl _ _) _)).grown HG4.out (by have := HNX3.out.size; simp; omega) (fun j hj => (HROW3.out.lt j hj).1))
    have HO4 : Hid (w4.ownsRow w.heap.size 9 1 v' (ss ++ [p.1]).length ((ss ++ [p.1]).map encStr)) := by
     show w4.ownsRow _ _ _ _ _ _
     simpa using ho
    clear ho
    go_roundw
    case rel => exact ⟨_, cnt2, ss ++ [p.1], HRG4, by simp; omega, HO4, HC2, HB4⟩
    case measure => rw [HRG4.out.left_eq]; exact HLT.out
   | false =>
    rw [hq] at HEV2
    have HC2 := Lib.hid (HC.out.miss HR.out HPT.out hq)
    clear HC hq HLK
    generalize tx10 p.1 = kv at *
    go_wp2_with (first
     | (go_at_call 165; (with_reducible refine HEV2.out.mono ?_); rintro e w3 ⟨rfl, hb3⟩; have HROW3 := Lib.hid (ownsRow_below10 HROW2.out hb3); have HRG3 := Lib.hid (ranges_below10 HRG2.out hb3); have HNX3 := Lib.hid (below_next HNX2.out hb3); clear hb3)
     | go_in)
    go_roundw
    case rel => exact ⟨_, cnt2, ss, HRG3, by omega, HROW3, HC2, HNX3⟩
    case measure => rw [HRG3.out.left_eq]; exact HLT.out

set_option maxRecDepth 100000 in
theorem rises10_nil (av : Value) (w : World) : Calls Tryz.prog 139 #[.map none, av] w (Names10 [] w) := by
 have hrg := run_range_nilMap (P := Tryz.prog) w 102 9 132 Tryz.underlying102
 have hnx : ∀ ty, (Instr.next (.pointer (some ⟨w.heap.size, 0, none⟩)) false ty).run Tryz.prog (w.alloc (.mapIter none 0 #[] 0)) = _ := fun ty => run_next_nilMap _ ty 0 0 #[]
 have HSRT0 : Hid (∀ cap W, Calls Tryz.prog 149 #[.slice none 0 cap, .func (.func 121) #[] #[]] W fun e w' => e = .returned (.tuple #[]) ∧ w' = W) := sort10_none
 have HB := Lib.hid (below_alloc (Below.refl w.heap.size w) (.mapIter none 0 #[] 0))
 go_enter Tryz.func139, Tryz.ntmps139
 go_wp2
 refine wp_loop_rounds 1 ?_
 rw [rounds_succ]
 go_wp2_with (go_at_call 149; (with_reducible refine (HSRT0.out _ _).mono ?_); rintro e w' ⟨rfl, rfl⟩)
 go_ret
 exact ⟨_, rfl, World.ownsRow_nil _ _ _ _, HB.out⟩

set_option maxRecDepth 100000 in
set_option maxHeartbeats 2000000 in
theorem riseb10_calls (b : Nat) (T : RowV (Unit)) (q : List UInt8 × (Unit) → Bool) (av : Value) (w : World) (hr : RiseV T) (hf : T.length ≤ 1000) (hown : w.ownsMap Tryz.prog 9 (plainElem Tryz.prog 4) b T.length (datV et10 T))
  (hev : ∀ W, Below w.heap.size w W → ∀ x ∈ T, Calls Tryz.prog 152 #[.bool true, av] W (Tells5 (q x) W)) :
  Calls Tryz.prog 124 #[.map (some b), av] w (Names10 (names10 (T.filter q)) w) := by
 obtain ⟨i0, hi, hz0, hz1, hz2⟩ := info_parts infoStr10
 have hbl := hown.lt
 have HEV := Lib.hid hev
 have HR := Lib.hid hr
 clear hev hr
 have hsz : Maps.size (datV et10 T) = T.length := datV_size et10 T
 have HSRT : Hid (∀ blk cap (ss ls : List (List UInt8)) (W : World), RiseT ls → ss.Perm ls → Holds encStr W blk 0 ss.toArray → blk < W.heap.size → ss.length < 4611686018427387904 → Calls Tryz.prog 149 #[.slice (some ⟨blk, 0, none⟩) ss.length cap, .func (.func 121) #[] #[]] W fun e w' => e = .returned (.tuple #[]) ∧ ∃ n os, w' = grow (putRow encStr (Sort.ahead W n) blk 0 ls.toArray) os) := sort10_calls
 have HSRT0 : Hid (∀ cap W, Calls Tryz.prog 149 #[.slice none 0 cap, .func (.func 121) #[] #[]] W fun e w' => e = .returned (.tuple #[]) ∧ w' = W) := sort10_none
 go_enter Tryz.func124, Tryz.ntmps124
 go_wp2_with (first
  | (at_range; refine wpList_range_own _ rfl _ 131 rfl 9 4 keyed10 Tryz.underlying131 _ b _ _ rfl hown ?_; intro w0 hrg0 hg0 hs0)
  | go_in)
 go_frame
 rw [hsz] at hrg0
 have hs1 : w0.heap.size = w.heap.size + 1 := hs0
 obtain ⟨len, hlen⟩ : ∃ len, len = T.length := ⟨_, rfl⟩
 rw [← hlen] at hrg0 hf
 have HLN := Lib.hid hlen
 clear hs0 hown hlen hsz
 go_loopw [5] (fun v wr => ∃ (left : Lit → Bool) (cnt : Nat) (ss : List (List UInt8)), Hid (wr.ranges Tryz.prog 9 (plainElem Tryz.prog 4) b w.heap.size len (datV et10 T) left cnt) ∧ ss.length + cnt ≤ len ∧
   Hid (wr.ownsRow w.heap.size 9 1 v ss.length (ss.map encStr)) ∧ Hid (Coll10 T q left ss) ∧ Hid (Below w.heap.size w wr))
  (fun _ wr => wr.rangeLeft b w.heap.size)
 case atStart =>
  exact ⟨_, _, [], hrg0, by simp, World.ownsRow_nil _ _ _ _, Coll10.start et10, (Below.refl _ _).grown hg0 (Nat.le_refl _) (fun j hj => by cases hj)⟩
 case round =>
  obtain ⟨left, cnt, ss, HRG, hcs, HROW, HC, HNX⟩ := hrel
  have hrg := HRG.out
  go_wp2_with (first
   | (at_next; refine wpList_next_ranges _ rfl _ rfl 9 keyed10 (plainElem Tryz.prog 4) encStr mkb10 (fun key kl hk => by obtain ⟨x, hx, _⟩ := Maps.keyOf_str Tryz.underlying9 hk; exact ⟨x, hx⟩) (fun v y hv => by obtain ⟨c, rfl, _⟩ := plainb_inv10 hv; exact mkb10_ex c) b w.heap.size len _ _ _ rfl hrg ?_ ?_)
   | go_in)
  ·
   intro hc0 hl0
   have hp := HC.out.perm HR.out hl0
   have hrt : RiseT (names10 (T.filter q)) := RiseV.names (HR.out.filter _)
   have hpl := hp.length_eq
   have hrow := HROW.out
   rcases hrow.2 with ⟨hnil, hz⟩ | ⟨g, cap, cur, rfl, hbase, hgb, r1, r2, r3, r4⟩
   ·
    subst hnil
    have hss : ss = [] := List.eq_nil_of_length_eq_zero hz
    subst hss
    have hne : names10 (T.filter q) = [] := List.eq_nil_of_length_eq_zero hpl.symm
    have HF : Hid (Names10 (names10 (T.filter q)) w (.returned (.slice none 0 0)) wr) := by
     rw [hne]
     exact ⟨_, rfl, World.ownsRow_nil _ _ _ _, HNX.out⟩
    clear hrow hz hne hpl hrt hp hrg hl0
    go_wp2_with (go_at_call 149; (with_reducible refine (HSRT0.out _ _).mono ?_); rintro e w' ⟨rfl, rfl⟩)
    go_ret
    exact HF.out
   ·
    have hH : Holds encStr wr g 0 ss.toArray := holds_of_block hgb (by simpa using r4)
    have hgl : g < wr.heap.size := (Array.getElem?_eq_some_iff.1 hgb).1
    have cS := Lib.hid (HSRT.out g cap ss _ wr hrt hp hH hgl (by omega))
    have HF : Hid (∀ n os, Names10 (names10 (T.filter q)) w (.returned (.slice (some ⟨g, 0, none⟩) ss.length cap)) (grow (putRow encStr (Sort.ahead wr n) g 0 (names10 (T.filter q)).toArray) os)) := fun n os => by
     refine ⟨_, rfl, ?_, HNX.out.grown (grownBy_sorted _) HNX.out.size (fun j hj => by cases hj; exact hbase)⟩
     have := ownsRow_sorted (ts := names10 (T.filter q)) (n := n) (os := os) hpl.symm hbase hgb r1 r2 r3
     rw [← hpl]; exact this
    clear hrow hbase hgb r1 r2 r3 r4 hH hgl hpl hp hrt hrg hl0
    generalize ss.length = n at *
    go_wp2_with (go_at_call 149; (with_reducible refine cS.out.mono ?_); rintro e w' ⟨rfl, nn, os, rfl⟩)
    go_ret
    exact HF.out nn os
  ·
   intro x c kl yd yp w2 cnt2 hkey hlk hv hat hrg2 hlt hg2 hs2 hen
   obtain ⟨x', ex, rfl, _⟩ := Maps.keyOf_str Tryz.underlying9 hkey
   obtain rfl : x = x' := encStr_inj ex
   obtain ⟨p, hpT, rfl, hpe⟩ := coll10_at HR.out hat
   have hcv : mkb10 c = .bool true := by
    obtain ⟨o, ho, hz⟩ := plainb_inv10 hv
    have e2 : (.lit (.bool true) : DataW Unit) = .lit (.bool o) := hpe.trans (congrArg Prod.fst hz)
    injection e2 with e2
    injection e2 with e2
    rw [ho, ← e2]
   rw [hcv] at hen ⊢
   clear hcv
   have hnx2 : Below w.heap.size w w2 := HNX.out.grown hg2 HNX.out.size (fun j hj => by cases hj; exact Nat.le_refl _)
   have hrow2 := HROW.out.kept hg2 (Or.inr (row_ne_iter HROW.out hrg).symm)
   have HEV2 := Lib.hid (HEV.out w2 hnx2 p hpT)
   have HNX2 := Lib.hid hnx2
   have HROW2 := Lib.hid hrow2
   have HRG2 := Lib.hid hrg2
   have hkz : (fun l : List UInt8 => (Value.string ⟨l.toArray⟩)) p.1 = encStr p.1 := rfl
   have HLT : Hid (cnt2 < wr.rangeLeft b w.heap.size) := by rw [show wr.rangeLeft b w.heap.size = cnt from hrg.left_eq]; exact hlt
   have HPT := Lib.hid hpT
   have HLK := Lib.hid hlk
   clear hs2 hnx2 hrow2 hrg2 hkz hpT hat hv hpe hkey hg2 HROW HRG hrg HNX HEV hlk
   have hlt2 : ss.length + cnt2 + 1 ≤ len := by omega
   have hkv : encStr p.1 = .string (tx10 p.1) := rfl
   have HKV := Lib.hid hkv
   rw [hkv] at hen ⊢
   clear hkv
   cases hq : q p with
   | true =>
    rw [hq] at HEV2
    have HC2 := Lib.hid (HC.out.hit HPT.out hq HLK.out)
    clear HC hq HLK
    generalize tx10 p.1 = kv at *
    go_wp2_with (first
     | (go_at_call 152; (with_reducible refine HEV2.out.mono ?_); rintro e w3 ⟨rfl, hb3⟩; have HROW3 := Lib.hid (ownsRow_below10 HROW2.out hb3); have HRG3 := Lib.hid (ranges_below10 HRG2.out hb3); have HNX3 := Lib.hid (below_next HNX2.out hb3); clear hb3)
     | (at_builtin; refine wpList_append_own _ rfl _ _ 28 rfl w.heap.size 9 i0 (.string ⟨#[]⟩) 1 16 Tryz.underlying28 hi hz0 hz1 hz2 rfl (by decide) _ _ _ rfl (HROW3.out.alloc _) ⟨w3.heap.size, 0, none⟩ 1 1 [.string kv] rfl rfl (cell_one_new _ _ _) (by simp [Value.oneCell']) (by unfold maxLen at *; omega) (by omega) (by have := HNX3.out.size; simp; omega) ?_; intro v' w4 hown' hg4 hnil4; have HOW := Lib.hid hown'; have HG4 := Lib.hid hg4; clear hown' hg4 hnil4; go_frame)
     | go_in)
    have HRG4 := Lib.hid ((HRG3.out.alloc _).kept HG4.out (row_ne_low HROW3.out hbl) (row_ne_iter HROW3.out HRG3.out))
    have ho := HOW.out
    rw [← HKV.out] at ho
    have HB4 := Lib.hid ((below_next HNX3.out (below_alloc (Below.refl _ _) _)).grown HG4.out (by have := HNX3.out.size; simp; omega) (fun j hj => (HROW3.out.lt j hj).1))
    have HO4 : Hid (w4.ownsRow w.heap.size 9 1 v' (ss ++ [p.1]).length ((ss ++ [p.1]).map encStr)) := by
     show w4.ownsRow _ _ _ _ _ _
     simpa using ho
    clear ho
    go_roundw
    case rel => exact ⟨_, cnt2, ss ++ [p.1], HRG4, by simp; omega, HO4, HC2, HB4⟩
    case measure => rw [HRG4.out.left_eq]; exact HLT.out
   | false =>
    rw [hq] at HEV2
    have HC2 := Lib.hid (HC.out.miss HR.out HPT.out hq)
    clear HC hq HLK
    generalize tx10 p.1 = kv at *
    go_wp2_with (first
     | (go_at_call 152; (with_reducible refine HEV2.out.mono ?_); rintro e w3 ⟨rfl, hb3⟩; have HROW3 := Lib.hid (ownsRow_below10 HROW2.out hb3); have HRG3 := Lib.hid (ranges_below10 HRG2.out hb3); have HNX3 := Lib.hid (below_next HNX2.out hb3); clear hb3)
     | go_in)
    go_roundw
    case rel => exact ⟨_, cnt2, ss, HRG3, by omega, HROW3, HC2, HNX3⟩
    case measure => rw [HRG3.out.left_eq]; exact HLT.out

set_option maxRecDepth 100000 in
theorem riseb10_nil (av : Value) (w : World) : Calls Tryz.prog 124 #[.map none, av] w (Names10 [] w) := by
 have hrg := run_range_nilMap (P := Tryz.prog) w 131 9 4 Tryz.underlying131
 have hnx : ∀ ty, (Instr.next (.pointer (some ⟨w.heap.size, 0, none⟩)) false ty).run Tryz.prog (w.alloc (.mapIter none 0 #[] 0)) = _ := fun ty => run_next_nilMap _ ty 0 0 #[]
 have HSRT0 : Hid (∀ cap W, Calls Tryz.prog 149 #[.slice none 0 cap, .func (.func 121) #[] #[]] W fun e w' => e = .returned (.tuple #[]) ∧ w' = W) := sort10_none
 have HB := Lib.hid (below_alloc (Below.refl w.heap.size w) (.mapIter none 0 #[] 0))
 go_enter Tryz.func124, Tryz.ntmps124
 go_wp2
 refine wp_loop_rounds 1 ?_
 rw [rounds_succ]
 go_wp2_with (go_at_call 149; (with_reducible refine (HSRT0.out _ _).mono ?_); rintro e w' ⟨rfl, rfl⟩)
 go_ret
 exact ⟨_, rfl, World.ownsRow_nil _ _ _ _, HB.out⟩
end Go.Proofs.YthlgmkfofebbfaaGreatDoor


namespace Go.Proofs.YthlgmkfofebbfaaGreatDoor
open Go.RowKit Go.Maps

theorem name10_len {n : List UInt8} (h : name5 n = true) : n.length ≤ 12 := by
 unfold name5 pref5 at h
 simp only [Bool.and_eq_true, decide_eq_true_eq] at h
 exact h.1.1.2.1
theorem name10_size {s : ByteArray} (h : name5 s.data.toList = true) : s.size ≤ 1000 := by
 have := name10_len h
 rw [size_list] at this
 omega

theorem PutTo10.goes {w w2 w' : World} {B b : Nat} {p : Option Nat} {T : Rows10} {k : List UInt8} {l : Set10} (h : PutTo10 w2 B p (putV T k (b, l)) w') (hb : Below w.heap.size w w2) (hbn : w.heap.size ≤ b) : Goes10 w B p T (putV (plain10 T) k l) w' := by
 obtain ⟨p', hd, hp, ht⟩ := h
 refine ⟨p', _, hd, plain10_put T k (b, l), fun c e => (hp c e).imp id (fun h => Nat.le_trans hb.size h), fun x hx => ?_, (Turns.of_below hb _).next ht (fun i _ h => h.elim .inl (fun h => .inr (.inl h)))⟩
 rcases mem_putV.1 hx with rfl | ⟨hx, _⟩
 ·
  exact .inr hbn
 ·
  exact .inl ⟨x, hx, rfl⟩
theorem gdrop10 {w : World} {B : Nat} {p : Option Nat} {T : Rows10} (h : Grp10 w B p T) (s : ByteArray) (hs : s.size ≤ maxLen) (ty : TypeId) :
  ∃ w', (Builtin.delete_ #[102, 9] ty #[.map p, .string s]).run Tryz.prog w = .ok (.tuple #[]) w' ∧ Goes10 w B p T (delV (plain10 T) s.data.toList) w' := by
 cases p with
 | none =>
  have hL := h.nil rfl
  subst hL
  exact ⟨w, Maps.drop_nil keyed10 Tryz.underlying102 (key10 s hs) ty, Goes10.still h (Below.refl _ _)⟩
 | some m =>
  obtain ⟨w', hrun, hown, ht⟩ := (h.map m rfl).drop keyed10 Tryz.underlying102 (key10 s hs) ty
  rw [datV_del] at hown
  have htn : Turns (fun i => i = m) w w' := (Turns.refl _ w).grown ht.grown (fun k hk _ => by cases hk; rfl)
  refine ⟨w', hrun, some m, delV T s.data.toList, ⟨(htn.block B h.lt (fun e => h.mne m rfl e.symm)).trans h.blk, (fun e => nomatch e), fun c hc => ?_, fun x hx => ?_, fun x hx y hy => h.one x (mem_delV.1 hx).1 y (mem_delV.1 hy).1, fun x hx => h.off x (mem_delV.1 hx).1, riseV_del h.rise _⟩, plain10_del T _, (fun _ e => .inl e), fun x hx => .inl ⟨x, (mem_delV.1 hx).1, rfl⟩, ((Turns.refl _ w).next htn fun i _ e => .inr (.inl (by rw [e])))⟩
  ·
   cases hc
   have := ownsMap_tight10 hown
   rwa [datV_size] at this
  ·
   have hx' := (mem_delV.1 hx).1
   exact (h.sets x hx').kept (htn.block _ (h.slt x hx') (fun e => h.off x hx' (by rw [e])))
theorem Goes10.set {w w1 w' : World} {B : Nat} {p : Option Nat} {T : Rows10} (h : Grp10 w B p T) (hb : Below w.heap.size w w1) {x : List UInt8 × (Nat × Set10)} (hx : x ∈ T) (f : Set10 → Set10) (hs : Set10At w' x.2.1 (f x.2.2)) (ht : Turns (fun i => i = x.2.1) w1 w') : Goes10 w B p T (updV f (plain10 T) x.1) w' := by
 refine ⟨p, _, (h.later hb).turned hx f hs ht, plain10_upd f T x.1, (fun _ e => .inl e), fun y hy => .inl ?_, (Turns.of_below hb _).next ht (fun i _ e => .inr (.inr ⟨x, hx, e.symm⟩))⟩
 obtain ⟨q, hq, rfl⟩ := updV_mem hy
 refine ⟨q, hq, ?_⟩
 show q.2.1 = (if q.1 = x.1 then (q.2.1, f q.2.2) else q.2).1
 split <;> rfl
theorem at10 {T : Rows10} {k : List UInt8} (h : hasV T k = true) : ∃ x ∈ T, x.1 = k := hasV_iff.1 h

set_option maxRecDepth 100000 in
set_option maxHeartbeats 1000000 in
theorem make10_calls (B : Nat) (p : Option Nat) (T : Rows10) (g : ByteArray) (w : World) (h : Grp10 w B p T) (hf : T.length ≤ 6) (hg : g.size ≤ 9223372036854775807) :
  Calls Tryz.prog 74 #[.pointer (some ⟨B, 0, none⟩), .string g] w fun e w' => e = .returned (.int .i64 (maE10 (plain10 T) g.data.toList)) ∧ Goes10 w B p T (maS10 (plain10 T) g.data.toList) w' := by
 have HI := Lib.hid h
 have HB0 : Hid (Below w.heap.size w (w.alloc (.cells #[.string g] 9))) := below_alloc (Below.refl _ _) _
 have HN := Lib.hid (areNames_one w.heap.size g _ hg (show (w.alloc (.cells #[.string g] 9)).cell? ⟨w.heap.size, 0, none⟩ = some (.string g) by rw [World.cell?_alloc_at _ _ _ _ rfl]; rfl))
 have HLK : Hid (∀ W, Below w.heap.size w W → (Instr.lookup 102 (.map p) (.string g) true).run Tryz.prog W = .ok (.tuple #[.map (blk10 T g.data.toList), .bool (hasV T g.data.toList)]) W) := fun W hb => look10 (h.later hb) g (Nat.le_trans hg (by decide))
 have HLE : Hid (∀ W ty, Below w.heap.size w W → (Builtin.len_ #[102] ty #[.map p]).run Tryz.prog W = .ok (.int .i64 T.length) W) := fun W ty hb => len10 (h.later hb) ty
 have hmm := @run_makeMap Tryz.prog
 unfold maS10 maE10
 rw [plain10_has, plain10_len]
 have HPT : Hid (name5 g.data.toList = true → ∀ W, Below w.heap.size w W → Calls Tryz.prog 127 #[.pointer (some ⟨B, 0, none⟩), .string g, .map (some W.heap.size)] (W.alloc (.map #[] 0)) fun e w' => e = .returned (.tuple #[]) ∧ Goes10 w B p T (putV (plain10 T) g.data.toList []) w') := fun hn W hb => by
  have hb2 : Below w.heap.size w (W.alloc (.map #[] 0)) := below_next hb (below_alloc (Below.refl _ _) _)
  refine (put10_calls B W.heap.size p T [] g _ (h.later hb2) (set10_made W) (fun x hx e => ?_) (fun e => ?_) (by omega) (name10_size hn)).mono fun e w' ⟨he, hp⟩ => ⟨he, hp.goes hb2 hb.size⟩
  ·
   have := h.slt x hx; have := hb.size; omega
  ·
   have := h.mlt _ e; have := hb.size; omega
 clear h
 generalize blk10 T g.data.toList = o at *
 generalize hasV T g.data.toList = b at *
 generalize name5 g.data.toList = a at *
 generalize putV (plain10 T) g.data.toList [] = S2 at *
 cases a with
 | false =>
  show Calls _ _ _ _ fun e w' => e = .returned (.int .i64 10) ∧ Goes10 w B p T (plain10 T) w'
  go_enter Tryz.func74, Tryz.ntmps74
  go_wp2_with fail
  with_reducible refine HN.out.mono ?_
  rintro e w1 ⟨rfl, hb⟩
  have HB := Lib.hid (below_next HB0.out hb)
  clear hb HN
  go_wp2
  go_ret
  exact ⟨rfl, Goes10.still HI.out HB.out⟩
 | true =>
  cases b with
  | true =>
   show Calls _ _ _ _ fun e w' => e = .returned (.int .i64 9) ∧ Goes10 w B p T (plain10 T) w'
   go_enter Tryz.func74, Tryz.ntmps74
   go_wp2_with fail
   with_reducible refine HN.out.mono ?_
   rintro e w1 ⟨rfl, hb⟩
   have hb1 := below_next HB0.out hb
   have HB := Lib.hid hb1
   have c1 := (HI.out.later hb1).cell
   have l1 := HLK.out _ hb1
   clear hb HN HLK hb1
   go_wp2
   go_ret
   exact ⟨rfl, Goes10.still HI.out HB.out⟩
  | false =>
   by_cases h6 : 6 ≤ T.length
   ·
    have e7 : (if true = true then if false = true then (9 : Int) else if 6 ≤ T.length then 7 else 0 else 10) = 7 := by simp [h6]
    rw [e7, if_neg (by decide)]
    have z6 : (T.length : Int) ≥ 6 := by omega
    have x6 : decide ((T.length : Int) ≥ 6) = true := decide_eq_true z6
    clear e7
    generalize hTL : T.length = tl at *
    have HTL := Lib.hid hTL
    clear hTL
    go_enter Tryz.func74, Tryz.ntmps74
    go_wp2_with fail
    with_reducible refine HN.out.mono ?_
    rintro e w1 ⟨rfl, hb⟩
    have hb1 := below_next HB0.out hb
    have HB := Lib.hid hb1
    have c1 := (HI.out.later hb1).cell
    have l1 := HLK.out _ hb1
    have l2 := fun ty => HLE.out _ ty hb1
    clear hb HN HLK hb1 HLE
    go_wp2
    go_ret
    exact ⟨rfl, Goes10.still HI.out HB.out⟩
   ·
    have e0 : (if true = true then if false = true then (9 : Int) else if 6 ≤ T.length then 7 else 0 else 10) = 0 := by simp [h6]
    rw [e0, if_pos rfl]
    have z6 : ¬ (T.length : Int) ≥ 6 := by omega
    have x6 : decide ((T.length : Int) ≥ 6) = false := decide_eq_false z6
    have HP2 := Lib.hid (HPT.out rfl)
    clear e0 HPT
    generalize hTL : T.length = tl at *
    have HTL := Lib.hid hTL
    clear hTL
    go_enter Tryz.func74, Tryz.ntmps74
    go_wp2_with fail
    with_reducible refine HN.out.mono ?_
    rintro e w1 ⟨rfl, hb⟩
    have hb1 := below_next HB0.out hb
    have c1 := (HI.out.later hb1).cell
    have l1 := HLK.out _ hb1
    have l2 := fun ty => HLE.out _ ty hb1
    have HP3 := Lib.hid (HP2.out _ hb1)
    clear hb HN HLK hb1 HLE HP2
    go_wp2_with fail
    with_reducible refine HP3.out.mono ?_
    rintro e w2 ⟨rfl, hg⟩
    have HG := Lib.hid hg
    clear hg HP3 c1 l1 l2
    go_wp2
    go_ret
    exact ⟨rfl, HG.out⟩

set_option maxRecDepth 100000 in
set_option maxHeartbeats 1000000 in
theorem drop10_calls (B : Nat) (p : Option Nat) (T : Rows10) (g : ByteArray) (w : World) (h : Grp10 w B p T) (hg : g.size ≤ 9223372036854775807) :
  Calls Tryz.prog 98 #[.pointer (some ⟨B, 0, none⟩), .string g] w fun e w' => e = .returned (.int .i64 (drE10 (plain10 T) g.data.toList)) ∧ Goes10 w B p T (drS10 (plain10 T) g.data.toList) w' := by
 have HI := Lib.hid h
 have HFN := Lib.hid (find10_none B p T g w h hg)
 have HDR : Hid (∀ W ty, Below w.heap.size w W → ∃ w', (Builtin.delete_ #[102, 9] ty #[.map p, .string g]).run Tryz.prog W = .ok (.tuple #[]) w' ∧ Goes10 w B p T (delV (plain10 T) g.data.toList) w') := fun W ty hb => by
  obtain ⟨w', h1, h2⟩ := gdrop10 (h.later hb) g (Nat.le_trans hg (by decide)) ty
  exact ⟨w', h1, h2.ahead hb⟩
 unfold drS10 drE10
 clear h
 by_cases hE : findE10 (plain10 T) g.data.toList [] = 0
 ·
  rw [hE] at HFN ⊢
  rw [if_pos rfl] at HFN ⊢
  clear hE
  generalize delV (plain10 T) g.data.toList = S2 at *
  generalize blk10 T g.data.toList = o at *
  go_enter Tryz.func98, Tryz.ntmps98
  go_wp2_with fail
  with_reducible refine HFN.out.mono ?_
  rintro e w1 ⟨rfl, hb⟩
  have c1 := (HI.out.later hb).cell
  obtain ⟨w2, hrun, hg2⟩ := HDR.out w1 0 hb
  have HG := Lib.hid hg2
  clear hb hg2 HFN HDR HI
  go_wp2
  go_ret
  exact ⟨rfl, HG.out⟩
 ·
  rw [if_neg hE]
  rw [if_neg hE] at HFN
  generalize findE10 (plain10 T) g.data.toList [] = r at *
  go_enter Tryz.func98, Tryz.ntmps98
  go_wp2_with fail
  with_reducible refine HFN.out.mono ?_
  rintro e w1 ⟨rfl, hb⟩
  have HB := Lib.hid hb
  clear hb HFN HDR
  go_wp2
  go_ret
  exact ⟨rfl, Goes10.still HI.out HB.out⟩

set_option maxRecDepth 100000 in
set_option maxHeartbeats 1000000 in
theorem join10_calls (B : Nat) (p : Option Nat) (T : Rows10) (g n : ByteArray) (w : World) (h : Grp10 w B p T) (hl : ∀ x ∈ T, x.2.2.length ≤ 1000) (hg : g.size ≤ 9223372036854775807) (hn : n.size ≤ 9223372036854775807) :
  Calls Tryz.prog 101 #[.pointer (some ⟨B, 0, none⟩), .string g, .string n] w fun e w' => e = .returned (.int .i64 (joE10 (plain10 T) g.data.toList n.data.toList)) ∧ Goes10 w B p T (joS10 (plain10 T) g.data.toList n.data.toList) w' := by
 have HI := Lib.hid h
 have hb0 : Below w.heap.size w (w.alloc (.cells #[.string n] 9)) := below_alloc (Below.refl _ _) _
 have HFN := Lib.hid (find10_one B p T g w.heap.size n _ (h.later hb0) hg hn (show (w.alloc (.cells #[.string n] 9)).cell? ⟨w.heap.size, 0, none⟩ = some (.string n) by rw [World.cell?_alloc_at _ _ _ _ rfl]; rfl))
 have HB0 := Lib.hid hb0
 unfold joS10 joE10
 clear hb0
 by_cases hE : findE10 (plain10 T) g.data.toList [n.data.toList] = 0
 ·
  obtain ⟨z1, z2, z3⟩ := findE10_zero hE
  rw [plain10_has] at z3
  obtain ⟨x, hx, hxg⟩ := at10 z3
  have hsz : n.size ≤ 1000 := name10_size (by simpa using z2)
  have hin : in10 (plain10 T) g.data.toList n.data.toList = hasV x.2.2 n.data.toList := by
   unfold in10
   rw [← hxg, plain10_mem h.rise hx]
  have hblk : blk10 T g.data.toList = some x.2.1 := by rw [← hxg]; exact blk10_some h.rise hx
  rw [hE, hblk] at HFN
  rw [if_pos rfl] at HFN
  rw [hE, if_pos rfl, hin]
  have HLK : Hid (∀ W, Below w.heap.size w W → (Instr.lookup 132 (.map (some x.2.1)) (.string n) false).run Tryz.prog W = .ok (.bool (hasV x.2.2 n.data.toList)) W) := fun W hb => has10 ((h.sets x hx).kept (hb.block _ (h.slt x hx))) n (Nat.le_trans hn (by decide))
  have HDO : Hid (∀ W, Below w.heap.size w W → Calls Tryz.prog 134 #[.map (some x.2.1), .string n] W fun e w' => e = .returned (.tuple #[]) ∧ Goes10 w B p T (updV (fun l => putV l n.data.toList ()) (plain10 T) x.1) w') := fun W hb =>
   (setadd10_calls x.2.1 x.2.2 n W ((h.sets x hx).kept (hb.block _ (h.slt x hx))) (hl x hx) hsz).mono fun e w' ⟨he, h2, h3⟩ => ⟨he, Goes10.set h hb hx (fun l => putV l n.data.toList ()) h2 h3⟩
  clear h hE z1 z2 z3 hin hblk hsz hl
  rw [hxg] at HDO
  clear hx hxg
  generalize updV (fun l => putV l n.data.toList ()) (plain10 T) g.data.toList = S2 at *
  generalize hasV x.2.2 n.data.toList = r at *
  generalize x.2.1 = b at *
  cases r with
  | true =>
   show Calls _ _ _ _ fun e w' => e = .returned (.int .i64 9) ∧ Goes10 w B p T (plain10 T) w'
   go_enter Tryz.func101, Tryz.ntmps101
   go_wp2_with fail
   with_reducible refine HFN.out.mono ?_
   rintro e w1 ⟨rfl, hb⟩
   have hb1 := below_next HB0.out hb
   have HB := Lib.hid hb1
   have l1 := HLK.out _ hb1
   clear hb hb1 HFN HLK HDO
   go_wp2
   go_ret
   exact ⟨rfl, Goes10.still HI.out HB.out⟩
  | false =>
   show Calls _ _ _ _ fun e w' => e = .returned (.int .i64 0) ∧ Goes10 w B p T S2 w'
   go_enter Tryz.func101, Tryz.ntmps101
   go_wp2_with fail
   with_reducible refine HFN.out.mono ?_
   rintro e w1 ⟨rfl, hb⟩
   have hb1 := below_next HB0.out hb
   have l1 := HLK.out _ hb1
   have HD1 := Lib.hid (HDO.out _ hb1)
   clear hb hb1 HFN HLK HDO
   go_wp2_with fail
   with_reducible refine HD1.out.mono ?_
   rintro e w2 ⟨rfl, hg⟩
   have HG := Lib.hid hg
   clear hg HD1 l1
   go_wp2
   go_ret
   exact ⟨rfl, HG.out⟩
 ·
  rw [if_neg hE, if_neg hE]
  rw [if_neg hE] at HFN
  clear h
  generalize findE10 (plain10 T) g.data.toList [n.data.toList] = r at *
  go_enter Tryz.func101, Tryz.ntmps101
  go_wp2_with fail
  with_reducible refine HFN.out.mono ?_
  rintro e w1 ⟨rfl, hb⟩
  have HB := Lib.hid (below_next HB0.out hb)
  clear hb HFN
  go_wp2
  go_ret
  exact ⟨rfl, Goes10.still HI.out HB.out⟩

set_option maxRecDepth 100000 in
set_option maxHeartbeats 1000000 in
theorem leave10_calls (B : Nat) (p : Option Nat) (T : Rows10) (g n : ByteArray) (w : World) (h : Grp10 w B p T) (hg : g.size ≤ 9223372036854775807) (hn : n.size ≤ 9223372036854775807) :
  Calls Tryz.prog 102 #[.pointer (some ⟨B, 0, none⟩), .string g, .string n] w fun e w' => e = .returned (.int .i64 (leE10 (plain10 T) g.data.toList n.data.toList)) ∧ Goes10 w B p T (leS10 (plain10 T) g.data.toList n.data.toList) w' := by
 have HI := Lib.hid h
 have hb0 : Below w.heap.size w (w.alloc (.cells #[.string n] 9)) := below_alloc (Below.refl _ _) _
 have HFN := Lib.hid (find10_one B p T g w.heap.size n _ (h.later hb0) hg hn (show (w.alloc (.cells #[.string n] 9)).cell? ⟨w.heap.size, 0, none⟩ = some (.string n) by rw [World.cell?_alloc_at _ _ _ _ rfl]; rfl))
 have HB0 := Lib.hid hb0
 unfold leS10 leE10
 clear hb0
 by_cases hE : findE10 (plain10 T) g.data.toList [n.data.toList] = 0
 ·
  obtain ⟨z1, z2, z3⟩ := findE10_zero hE
  rw [plain10_has] at z3
  obtain ⟨x, hx, hxg⟩ := at10 z3
  have hsz : n.size ≤ 1000 := name10_size (by simpa using z2)
  have hin : in10 (plain10 T) g.data.toList n.data.toList = hasV x.2.2 n.data.toList := by
   unfold in10
   rw [← hxg, plain10_mem h.rise hx]
  have hblk : blk10 T g.data.toList = some x.2.1 := by rw [← hxg]; exact blk10_some h.rise hx
  rw [hE, hblk] at HFN
  rw [if_pos rfl] at HFN
  rw [hE, if_pos rfl, hin]
  have HLK : Hid (∀ W, Below w.heap.size w W → (Instr.lookup 132 (.map (some x.2.1)) (.string n) false).run Tryz.prog W = .ok (.bool (hasV x.2.2 n.data.toList)) W) := fun W hb => has10 ((h.sets x hx).kept (hb.block _ (h.slt x hx))) n (Nat.le_trans hn (by decide))
  have HDO : Hid (∀ W ty, Below w.heap.size w W → ∃ w', (Builtin.delete_ #[132, 9] ty #[.map (some x.2.1), .string n]).run Tryz.prog W = .ok (.tuple #[]) w' ∧ Goes10 w B p T (updV (fun l => delV l n.data.toList) (plain10 T) x.1) w') := fun W ty hb => by
   obtain ⟨w', h1, h2, h3⟩ := drop10 ((h.sets x hx).kept (hb.block _ (h.slt x hx))) n (Nat.le_trans hn (by decide)) ty
   exact ⟨w', h1, Goes10.set h hb hx (fun l => delV l n.data.toList) h2 ((Turns.refl _ W).grown h3.grown (fun k hk _ => by cases hk; rfl))⟩
  clear h hE z1 z2 z3 hin hblk hsz
  rw [hxg] at HDO
  clear hx hxg
  generalize updV (fun l => delV l n.data.toList) (plain10 T) g.data.toList = S2 at *
  generalize hasV x.2.2 n.data.toList = r at *
  generalize x.2.1 = b at *
  cases r with
  | false =>
   show Calls _ _ _ _ fun e w' => e = .returned (.int .i64 12) ∧ Goes10 w B p T (plain10 T) w'
   go_enter Tryz.func102, Tryz.ntmps102
   go_wp2_with fail
   with_reducible refine HFN.out.mono ?_
   rintro e w1 ⟨rfl, hb⟩
   have hb1 := below_next HB0.out hb
   have HB := Lib.hid hb1
   have l1 := HLK.out _ hb1
   clear hb hb1 HFN HLK HDO
   go_wp2
   go_ret
   exact ⟨rfl, Goes10.still HI.out HB.out⟩
  | true =>
   show Calls _ _ _ _ fun e w' => e = .returned (.int .i64 0) ∧ Goes10 w B p T S2 w'
   go_enter Tryz.func102, Tryz.ntmps102
   go_wp2_with fail
   with_reducible refine HFN.out.mono ?_
   rintro e w1 ⟨rfl, hb⟩
   have hb1 := below_next HB0.out hb
   have l1 := HLK.out _ hb1
   obtain ⟨w2, hrun, hg2⟩ := HDO.out w1 0 hb1
   have HG := Lib.hid hg2
   clear hb hb1 HFN HLK HDO hg2
   go_wp2
   go_ret
   exact ⟨rfl, HG.out⟩
 ·
  rw [if_neg hE, if_neg hE]
  rw [if_neg hE] at HFN
  clear h
  generalize findE10 (plain10 T) g.data.toList [n.data.toList] = r at *
  go_enter Tryz.func102, Tryz.ntmps102
  go_wp2_with fail
  with_reducible refine HFN.out.mono ?_
  rintro e w1 ⟨rfl, hb⟩
  have HB := Lib.hid (below_next HB0.out hb)
  clear hb HFN
  go_wp2
  go_ret
  exact ⟨rfl, Goes10.still HI.out HB.out⟩

set_option maxRecDepth 100000 in
set_option maxHeartbeats 1000000 in
theorem members10_calls (B : Nat) (p : Option Nat) (T : Rows10) (g : ByteArray) (w : World) (h : Grp10 w B p T) (hs : ∀ x ∈ T, RiseV x.2.2) (hl : ∀ x ∈ T, x.2.2.length ≤ 1000) (hg : g.size ≤ 9223372036854775807) :
  Calls Tryz.prog 65 #[.pointer (some ⟨B, 0, none⟩), .string g] w fun e w' => ∃ v, e = .returned (.tuple #[v, .int .i64 (drE10 (plain10 T) g.data.toList)]) ∧ w'.ownsRow w.heap.size 9 1 v (meL10 (plain10 T) g.data.toList).length ((meL10 (plain10 T) g.data.toList).map encStr) ∧ Below w.heap.size w w' := by
 have HFN := Lib.hid (find10_none B p T g w h hg)
 have HRS : Hid (∀ W, Below w.heap.size w W → Calls Tryz.prog 124 #[.map (if findE10 (plain10 T) g.data.toList [] = 0 then blk10 T g.data.toList else none), .slice none 0 0] W (Names10 (meL10 (plain10 T) g.data.toList) W)) := fun W hb => by
  unfold meL10 drE10
  by_cases hE : findE10 (plain10 T) g.data.toList [] = 0
  ·
   obtain ⟨z1, z2, z3⟩ := findE10_zero hE
   rw [plain10_has] at z3
   obtain ⟨x, hx, hxg⟩ := at10 z3
   rw [if_pos hE, if_pos hE, ← hxg, blk10_some h.rise hx, plain10_mem h.rise hx]
   have := riseb10_calls x.2.1 x.2.2 (fun _ => true) (.slice none 0 0) W (hs x hx) (hl x hx) ((h.sets x hx).kept (hb.block _ (h.slt x hx))) (fun W' _ y _ => everyb_none true W')
   rwa [List.filter_eq_self.2 (fun _ _ => rfl)] at this
  ·
   rw [if_neg hE, if_neg hE]
   exact riseb10_nil _ W
 unfold drE10 at *
 clear h hs hl
 generalize meL10 (plain10 T) g.data.toList = ls at *
 generalize (if findE10 (plain10 T) g.data.toList [] = 0 then blk10 T g.data.toList else none) = o at *
 generalize findE10 (plain10 T) g.data.toList [] = r at *
 go_enter Tryz.func65, Tryz.ntmps65
 go_wp2_with fail
 with_reducible refine HFN.out.mono ?_
 rintro e w1 ⟨rfl, hb⟩
 have HB := Lib.hid hb
 have HR1 := Lib.hid (HRS.out w1 hb)
 clear hb HFN HRS
 go_wp2_with fail
 with_reducible refine HR1.out.mono ?_
 rintro e w2 ⟨v, rfl, hr, hb⟩
 have HO := Lib.hid (ownsRow_low10 hr HB.out.size)
 have HB2 := Lib.hid (below_next HB.out hb)
 obtain ⟨A, c, rfl⟩ : ∃ A c, v = .slice A ls.length c := by
  rcases hr.2 with ⟨rfl, hz⟩ | ⟨g, cap, cur, rfl, _⟩
  ·
   exact ⟨none, 0, by rw [hz]⟩
  ·
   exact ⟨_, cap, rfl⟩
 clear hr hb HR1
 go_wp2
 go_ret2
 exact ⟨_, rfl, HO.out, HB2.out⟩

set_option maxRecDepth 100000 in
set_option maxHeartbeats 1000000 in
theorem all10_calls (B : Nat) (p : Option Nat) (T : Rows10) (w : World) (h : Grp10 w B p T) (hf : T.length ≤ 1000) :
  Calls Tryz.prog 106 #[.pointer (some ⟨B, 0, none⟩)] w (Names10 (names10 (plain10 T)) w) := by
 have HRS : Hid (Calls Tryz.prog 139 #[.map p, .slice none 0 0] w (Names10 (names10 (plain10 T)) w)) := by
  rw [plain10_names]
  cases p with
  | none =>
   have := h.nil rfl
   subst this
   exact rises10_nil _ w
  | some m =>
   have := rises10_calls m T (fun _ => true) (.slice none 0 0) w h.rise hf (h.map m rfl) (fun W' _ y _ => everys_none _ W')
   rwa [List.filter_eq_self.2 (fun _ _ => rfl)] at this
 have hc := h.cell
 clear h
 generalize names10 (plain10 T) = ls at *
 go_enter Tryz.func106, Tryz.ntmps106
 go_wp2_with fail
 with_reducible refine HRS.out.mono ?_
 rintro e w2 ⟨v, rfl, hr, hb⟩
 have HN : Hid (Names10 ls w (.returned v) w2) := ⟨v, rfl, hr, hb⟩
 obtain ⟨A, c, rfl⟩ : ∃ A c, v = .slice A ls.length c := by
  rcases hr.2 with ⟨rfl, hz⟩ | ⟨g, cap, cur, rfl, _⟩
  ·
   exact ⟨none, 0, by rw [hz]⟩
  ·
   exact ⟨_, cap, rfl⟩
 clear hr hb HRS hc
 generalize hn : ls.length = n at *
 clear hn
 go_wp2
 go_ret
 exact HN.out

theorem of10_rows (T : Rows10) (n : List UInt8) : names10 (T.filter fun x => hasV x.2.2 n) = of10 (plain10 T) n := by
 unfold of10 ofs10 plain10 names10
 rw [List.filter_map, List.map_map]
 rfl
def YOf10 (B : Nat) (p : Option Nat) (n : ByteArray) (ls : List (List UInt8)) (w : World) : Nat → Value → World → Prop
 | 3, v, _ => v = .map p
 | 4, v, _ => v = .string n
 | 5, v, W => ∃ C, v = .func (.func 166) #[] #[.pointer (some ⟨C, 0, none⟩)] ∧ W.cell? ⟨C, 0, none⟩ = some (.string n)
 | 6, v, W => ∃ A C, v = .slice (some ⟨A, 0, none⟩) 1 1 ∧ W.cell? ⟨A, 0, none⟩ = some (.func (.func 166) #[] #[.pointer (some ⟨C, 0, none⟩)]) ∧ W.cell? ⟨C, 0, none⟩ = some (.string n)
 | 7, v, W => Names10 ls w (.returned v) W
 | 8, v, W => Names10 ls w (.returned v) W
 | _, v, _ => v = .pointer (some ⟨B, 0, none⟩)
theorem Names10.later {ls : List (List UInt8)} {w W W' : World} {e : Ending} (h : Names10 ls w e W) (hb : Below W.heap.size W W') : Names10 ls w e W' := by
 obtain ⟨v, he, hr, hbw⟩ := h
 exact ⟨v, he, ownsRow_below10 hr hb, below_next hbw hb⟩
theorem YOf10_keep {B : Nat} {p : Option Nat} {n : ByteArray} {ls : List (List UInt8)} {w W W' : World} (hb : Below W.heap.size W W') (j : Nat) (u : Value) (h : YOf10 B p n ls w j u W) : YOf10 B p n ls w j u W' := by
 have key : ∀ (C : Nat) (v : Value), W.cell? ⟨C, 0, none⟩ = some v → W'.cell? ⟨C, 0, none⟩ = some v := fun C v hC => (hb.cell (p := ⟨C, 0, none⟩) (World.block_lt_of_cell? W _ hC)).trans hC
 match j, h with
 | 0, h => exact h
 | 1, h => exact h
 | 2, h => exact h
 | 3, h => exact h
 | 4, h => exact h
 | 5, h => obtain ⟨C, e, hC⟩ := h; exact ⟨C, e, key C _ hC⟩
 | 6, h => obtain ⟨A, C, e, hA, hC⟩ := h; exact ⟨A, C, e, key A _ hA, key C _ hC⟩
 | 7, h => exact Names10.later h hb
 | 8, h => exact Names10.later h hb
 | _ + 9, h => exact h

set_option maxRecDepth 100000 in
set_option maxHeartbeats 1000000 in
theorem of10_calls (B : Nat) (p : Option Nat) (T : Rows10) (n : ByteArray) (w : World) (h : Grp10 w B p T) (hf : T.length ≤ 1000) (hn : n.size ≤ 9223372036854775807) :
  Calls Tryz.prog 111 #[.pointer (some ⟨B, 0, none⟩), .string n] w (Names10 (of10 (plain10 T) n.data.toList) w) := by
 have HRS : Hid (∀ W A C, Below w.heap.size w W → W.cell? ⟨A, 0, none⟩ = some (.func (.func 166) #[] #[.pointer (some ⟨C, 0, none⟩)]) → W.cell? ⟨C, 0, none⟩ = some (.string n) →
   Calls Tryz.prog 139 #[.map p, .slice (some ⟨A, 0, none⟩) 1 1] W (Names10 (of10 (plain10 T) n.data.toList) W)) := fun W A C hb hA hC => by
  have lA : A < W.heap.size := World.block_lt_of_cell? W _ hA
  have lC : C < W.heap.size := World.block_lt_of_cell? W _ hC
  rw [← of10_rows]
  cases p with
  | none =>
   have := h.nil rfl
   subst this
   exact rises10_nil _ W
  | some m =>
   exact rises10_calls m T (fun x => hasV x.2.2 n.data.toList) _ W h.rise hf ((h.later hb).map m rfl) (fun W' hb' y hy => everys_one A C y.2.1 y.2.2 n W' (Nat.le_trans hn (by decide)) ((hb'.cell (p := ⟨A, 0, none⟩) lA).trans hA) ((hb'.cell (p := ⟨C, 0, none⟩) lC).trans hC) (((h.later hb).later hb').sets y hy))
 have HI := Lib.hid h
 have HFN : Hid (∀ W, Calls Tryz.prog 142 #[.string n] W fun e w' => e = .returned (.func (.func 166) #[] #[.pointer (some ⟨W.heap.size, 0, none⟩)]) ∧ w' = W.alloc (.cells #[.string n] 9)) := fun W => hasfn_calls n W
 clear h
 generalize of10 (plain10 T) n.data.toList = ls at *
 go_enter Tryz.func111, Tryz.ntmps111
 go_wp2_with fail
 refine wp_region_inv (by kernel_rfl) (fun W => Below w.heap.size w W) (YOf10 B p n ls w) ?F ?hF (by kernel_rfl) (by kernel_rfl) (below_drew (Below.refl _ _)) ?step ?fin
 case hF =>
  intro x
  simp only [List.map_cons, List.map_nil, putL, Act.put, List.setIfInBounds_toArray, List.set_cons_zero, List.set_cons_succ, Nat.zero_add, Nat.reduceAdd]
  exact rfl
 case step =>
  refine ⟨?_, ?_, ?_, ?_, ?_, ?_, ?_, ?_, ?_, trivial⟩
  all_goals intro x W hW hdep K hK
  ·
   clear hdep
   go_simp
   exact hK _ _ rfl hW (fun _ _ h => h)
  ·
   have h0 : x 0 = _ := hdep 0 rfl
   clear hdep
   simp only [h0] at hK
   go_simp
   exact hK _ _ rfl hW (fun _ _ h => h)
  ·
   have h1 : x 1 = _ := hdep 1 rfl
   clear hdep
   simp only [h1] at hK
   go_simp
   exact hK _ _ rfl hW (fun _ _ h => h)
  ·
   have h2 : x 2 = _ := hdep 2 rfl
   have c := (HI.out.later hW).cell
   clear hdep
   simp only [h2] at hK
   go_simp
   exact hK _ _ rfl hW (fun _ _ h => h)
  ·
   clear hdep
   go_simp
   exact hK _ _ rfl hW (fun _ _ h => h)
  ·
   have h4 : x 4 = _ := hdep 4 rfl
   have hc := HFN.out W
   clear hdep
   simp only [h4] at hK
   go_simp
   refine hc.mono ?_
   rintro e W' ⟨rfl, rfl⟩
   have hb : Below W.heap.size W (W.alloc (.cells #[.string n] 9)) := below_alloc (Below.refl _ _) _
   exact hK _ _ ⟨W.heap.size, rfl, by rw [World.cell?_alloc_at _ _ _ _ rfl]; rfl⟩ (below_next hW hb) (YOf10_keep hb)
  ·
   obtain ⟨C, h5, hC⟩ := (show YOf10 B p n ls w 5 (x 5) W from hdep 5 rfl)
   simp only [h5] at hK
   have lC : C < W.heap.size := World.block_lt_of_cell? W _ hC
   clear hdep
   go_simp
   have hb : Below W.heap.size W (W.alloc (.cells #[.func (.func 166) #[] #[.pointer (some ⟨C, 0, none⟩)]] 153)) := below_alloc (Below.refl _ _) _
   exact hK _ _ ⟨W.heap.size, C, rfl, by rw [World.cell?_alloc_at _ _ _ _ rfl]; rfl, (hb.cell (p := ⟨C, 0, none⟩) lC).trans hC⟩ (below_next hW hb) (YOf10_keep hb)
  ·
   have h3 : x 3 = _ := hdep 3 rfl
   obtain ⟨A, C, h6, hA, hC⟩ := (show YOf10 B p n ls w 6 (x 6) W from hdep 6 rfl)
   have hc := HRS.out W A C hW hA hC
   simp only [h6] at hK
   clear hdep
   simp only [h3] at hK
   go_simp
   refine hc.mono ?_
   rintro e W' ⟨v, rfl, hr, hb⟩
   exact hK _ _ ⟨v, rfl, ownsRow_low10 hr hW.size, below_next hW hb⟩ (below_next hW hb) (YOf10_keep hb)
  ·
   have h7 : Names10 ls w (.returned (x 7)) W := hdep 7 rfl
   clear hdep
   go_simp
   exact hK _ _ h7 hW (fun _ _ h => h)
 case fin =>
  intro x W hW hY
  have h8 : Names10 ls w (.returned (x 8)) W := hY 8 (by decide)
  obtain ⟨v, he, hr, hb⟩ := h8
  injection he with he
  have HN : Hid (Names10 ls w (.returned v) W) := ⟨v, rfl, hr, hb⟩
  clear hY hW HI HFN HRS hr hb
  rw [he]
  go_wp2
  go_ret
  exact HN.out
end Go.Proofs.YthlgmkfofebbfaaGreatDoor


namespace Go.Proofs.YthlgmkfofebbfaaGreatDoor
open Go.RowKit Go.Maps

def stepT (f : Set10 → Set10) (ls : List (List UInt8)) (T : Rows10) : Rows10 := T.map fun x => if x.1 ∈ ls then (x.1, (x.2.1, f x.2.2)) else x
theorem stepT_nil (f : Set10 → Set10) (T : Rows10) : stepT f [] T = T := by
 unfold stepT
 simp
theorem stepT_mem {f : Set10 → Set10} {ls : List (List UInt8)} {T : Rows10} {x : List UInt8 × (Nat × Set10)} (hx : x ∈ T) (hn : x.1 ∉ ls) : x ∈ stepT f ls T := List.mem_map.2 ⟨x, hx, if_neg hn⟩
theorem stepT_blk {f : Set10 → Set10} {ls : List (List UInt8)} {T : Rows10} {y : List UInt8 × (Nat × Set10)} (hy : y ∈ stepT f ls T) : ∃ x ∈ T, x.2.1 = y.2.1 := by
 obtain ⟨x, hx, rfl⟩ := List.mem_map.1 hy
 refine ⟨x, hx, ?_⟩
 split <;> rfl
theorem stepT_snoc {f : Set10 → Set10} {ls : List (List UInt8)} {T : Rows10} {k : List UInt8} (hk : k ∉ ls) : updV (fun v => (v.1, f v.2)) (stepT f ls T) k = stepT f (ls ++ [k]) T := by
 unfold stepT updV
 rw [List.map_map]
 refine List.map_congr_left fun x _ => ?_
 by_cases e : x.1 ∈ ls
 ·
  have hne : x.1 ≠ k := fun e' => hk (e' ▸ e)
  simp [e, hne]
 ·
  by_cases e' : x.1 = k
  ·
   subst e'
   simp [e]
  ·
   simp [e, e']
theorem stepT_plain (f : Set10 → Set10) (ls : List (List UInt8)) (T : Rows10) : plain10 (stepT f ls T) = (plain10 T).map fun p => if p.1 ∈ ls then (p.1, f p.2) else p := by
 unfold plain10 stepT
 rw [List.map_map, List.map_map]
 refine List.map_congr_left fun x _ => ?_
 by_cases e : x.1 ∈ ls <;> simp [e]
theorem stepT_of {S : Grs10} (hr : RiseV S) (n : List UInt8) {p : List UInt8 × Set10} (hp : p ∈ S) : p.1 ∈ of10 S n ↔ hasV p.2 n = true := by
 rw [of10_mem hr]
 unfold in10
 rw [mem10_at hr hp]
theorem removed_all {T : Rows10} (hr : RiseV (plain10 T)) (n : List UInt8) : plain10 (stepT (fun l => delV l n) (of10 (plain10 T) n) T) = rmS10 (plain10 T) n := by
 rw [stepT_plain]
 unfold rmS10
 refine List.map_congr_left fun p hp => ?_
 by_cases e : p.1 ∈ of10 (plain10 T) n
 ·
  rw [if_pos e]
 ·
  rw [if_neg e, delV_of_not]
  cases h : hasV p.2 n
  ·
   rfl
  ·
   exact absurd ((stepT_of hr n hp).2 h) e
theorem renamed_all {T : Rows10} (hr : RiseV (plain10 T)) (o n : List UInt8) : plain10 (stepT (fun l => putV (delV l o) n ()) (of10 (plain10 T) o) T) = (plain10 T).map fun p => (p.1, ren10 o n p.2) := by
 rw [stepT_plain]
 refine List.map_congr_left fun p hp => ?_
 unfold ren10
 by_cases e : p.1 ∈ of10 (plain10 T) o
 ·
  rw [if_pos e, if_pos ((stepT_of hr o hp).1 e)]
 ·
  rw [if_neg e]
  cases h : hasV p.2 o
  ·
   rfl
  ·
   exact absurd ((stepT_of hr o hp).2 h) e
theorem riseT_take {l : List (List UInt8)} (h : RiseT l) {k : Nat} (hk : k < l.length) : l[k] ∉ l.take k := by
 intro hm
 obtain ⟨j, hj, e⟩ := List.getElem_of_mem hm
 rw [List.getElem_take] at e
 have hjk : j < k := by simp at hj; omega
 have := List.pairwise_iff_getElem.1 h j k (by omega) hk hjk
 rw [e, before_irrefl] at this
 cases this
theorem row10 {w : World} {base : Nat} {v : Value} {ls : List (List UInt8)} (h : w.ownsRow base 9 1 v ls.length (ls.map encStr)) :
  (v = .slice none 0 0 ∧ ls = []) ∨ ∃ g cap cur, v = .slice (some ⟨g, 0, none⟩) ls.length cap ∧ base ≤ g ∧ w.heap[g]? = some (.cells cur 9 (0, 0)) ∧ ∀ j (h : j < ls.length), cur[j]? = some (.string (tx10 ls[j])) := by
 rcases h.2 with ⟨rfl, hz⟩ | ⟨g, cap, cur, rfl, hb, hg, r1, r2, r3, r4⟩
 ·
  exact .inl ⟨rfl, List.eq_nil_of_length_eq_zero hz⟩
 ·
  refine .inr ⟨g, cap, cur, rfl, hb, hg, fun j hj => ?_⟩
  have h2 : (List.take (ls.length * 1) cur.toList)[j]? = some (.string (tx10 ls[j])) := by rw [r4]; simp [hj, encStr, tx10]
  rw [List.getElem?_take, if_pos (by omega)] at h2
  simpa using h2
theorem row10_at {w wr : World} {base : Nat} {v : Value} {ls : List (List UInt8)} {S : Nat → Prop} (h : w.ownsRow base 9 1 v ls.length (ls.map encStr)) (ht : Turns S w wr) (hS : ∀ i c T fr, w.heap[i]? = some (.cells c T fr) → T = 9 → ¬ S i) {k : Nat} (hk : k < ls.length) :
  ∃ g cap, v = .slice (some ⟨g, 0, none⟩) ls.length cap ∧ wr.cell? ⟨g, k, none⟩ = some (.string (tx10 ls[k])) := by
 rcases row10 h with ⟨_, rfl⟩ | ⟨g, cap, cur, rfl, _, hg, hc⟩
 ·
  exact absurd hk (Nat.not_lt_zero _)
 ·
  refine ⟨g, cap, rfl, ?_⟩
  have h1 : wr.heap[g]? = some (.cells cur 9 (0, 0)) := (ht.block g (Array.getElem?_eq_some_iff.1 hg).1 (hS g _ _ _ hg rfl)).trans hg
  have h2 := hc k hk
  simp [World.cell?, h1, h2]
theorem row10_shape {w : World} {base : Nat} {v : Value} {ls : List (List UInt8)} (h : w.ownsRow base 9 1 v ls.length (ls.map encStr)) : ∃ A c, v = .slice A ls.length c := by
 rcases row10 h with ⟨rfl, rfl⟩ | ⟨g, cap, cur, rfl, _⟩
 ·
  exact ⟨none, 0, rfl⟩
 ·
  exact ⟨_, cap, rfl⟩
theorem Grp10.step {w w' : World} {B : Nat} {p : Option Nat} {T : Rows10} {f : Set10 → Set10} {ls : List (List UInt8)} (h : Grp10 w B p (stepT f ls T)) {x : List UInt8 × (Nat × Set10)} (hx : x ∈ T) (hn : x.1 ∉ ls) (hs : Set10At w' x.2.1 (f x.2.2)) (ht : Turns (fun i => i = x.2.1) w w') : Grp10 w' B p (stepT f (ls ++ [x.1]) T) := by
 have := h.turned (stepT_mem hx hn) f hs ht
 rwa [stepT_snoc hn] at this

set_option maxRecDepth 100000 in
set_option maxHeartbeats 2000000 in
theorem remove10_calls (B : Nat) (p : Option Nat) (T : Rows10) (n : ByteArray) (w : World) (h : Grp10 w B p T) (hf : T.length ≤ 1000) (hnm : ∀ x ∈ T, x.1.length ≤ 1000) (hn : n.size ≤ 9223372036854775807) :
  Calls Tryz.prog 78 #[.pointer (some ⟨B, 0, none⟩), .string n] w fun e w' => e = .returned (.int .i64 ((of10 (plain10 T) n.data.toList).length : Nat)) ∧ Goes10 w B p T (rmS10 (plain10 T) n.data.toList) w' := by
 have HOF := Lib.hid (of10_calls B p T n w h hf hn)
 have hrs : RiseV (plain10 T) := riseV_names h.rise (plain10_names T)
 have HRM := Lib.hid (removed_all hrs n.data.toList)
 have HNZ : Hid (n.size ≤ maxLen) := Nat.le_trans hn (by decide)
 have HI := Lib.hid h
 have HTL0 : Hid (∀ g ∈ of10 (plain10 T) n.data.toList, ∃ x ∈ T, x.1 = g) := fun g hg => by
  have := of10_sub hg
  rw [plain10_names] at this
  obtain ⟨x, hx, e⟩ := List.mem_map.1 this
  exact ⟨x, hx, e⟩
 have HRL : Hid (RiseT (of10 (plain10 T) n.data.toList)) := of10_rise hrs _
 obtain ⟨l, hl⟩ : ∃ l, of10 (plain10 T) n.data.toList = l := ⟨_, rfl⟩
 rw [hl] at HOF HRM HTL0 HRL ⊢
 have HL := Lib.hid hl
 have HTL : Hid (∀ k (h : k < l.length), ∃ x ∈ T, x.1 = l[k]) := fun k hk => HTL0.out _ (List.getElem_mem hk)
 have HLN : Hid (∀ g ∈ l, g.length ≤ maxLen) := fun g hg => by
  obtain ⟨x, hx, e⟩ := HTL0.out g hg
  rw [← e]
  exact Nat.le_trans (hnm x hx) (by decide)
 have HB1 := Lib.hid (Below.refl w.heap.size w)
 clear h hrs hl HTL0 hn hnm
 go_enter Tryz.func78, Tryz.ntmps78
 go_wp2_with fail
 with_reducible refine HOF.out.mono ?_
 rintro e w1 ⟨v, rfl, hr, hb⟩
 have HRO := Lib.hid hr
 have HB2 := Lib.hid (below_next HB1.out hb)
 have HI2 := Lib.hid (HI.out.later (below_next HB1.out hb))
 obtain ⟨A, c, rfl⟩ := row10_shape hr
 have hcl : l.length ≤ T.length := by rw [← HL.out]; exact Nat.le_trans (of10_le _ _) (Nat.le_of_eq (plain10_len T))
 obtain ⟨len, hlen⟩ : ∃ len, len = l.length := ⟨_, rfl⟩
 rw [← hlen] at hcl ⊢
 have HLEN := Lib.hid hlen
 have hlz : len ≤ 1000 := by omega
 have HCL := Lib.hid hcl
 clear hr hb hlen hcl
 clear HOF
 go_wp2
 go_loopg [13] len (fun gg s13 wr => ∃ k : Nat, k ≤ len ∧ len - k ≤ gg ∧ s13 = .int .i64 k ∧ Hid (Grp10 wr B p (stepT (fun l => delV l n.data.toList) (l.take k) T)) ∧ Hid (Turns (fun i => ∃ x ∈ T, x.2.1 = i) w1 wr))
 case atStart => exact ⟨0, Nat.zero_le _, by omega, rfl, (by show Grp10 _ _ _ _; rw [List.take_zero, stepT_nil]; exact HI2.out), Turns.refl _ _⟩
 case round =>
  obtain ⟨k, hk, hg, rfl, HG, HT⟩ := hrel
  by_cases hlt : k < len
  ·
   have hltz : (k : Int) < (len : Int) := by omega
   have hkl : k < l.length := HLEN.out ▸ hlt
   obtain ⟨x, hx, hxn⟩ := HTL.out k hkl
   have hnot : l[k] ∉ l.take k := riseT_take HRL.out hkl
   have hxk : x ∈ stepT (fun l => delV l n.data.toList) (l.take k) T := stepT_mem hx (by rw [hxn]; exact hnot)
   obtain ⟨g, cap, e2, x0⟩ := row10_at HRO.out HT.out (fun i c0 T0 fr hi _ hS => by obtain ⟨y, hy, e⟩ := hS; exact map_ne_cells10 (HI2.out.sets y hy) hi e) hkl
   injection e2 with e2 e2n e2c
   subst e2
   clear e2n e2c
   have c0 := HG.out.cell
   have htk : l.take (k + 1) = l.take k ++ [x.1] := by rw [List.take_succ_eq_append_getElem hkl, hxn]
   have l1 := look101 HG.out (tx10 l[k]) (by rw [tx10_size]; exact HLN.out _ (List.getElem_mem hkl))
   rw [tx10_list, ← hxn, blk10_some HG.out.rise hxk] at l1
   rw [← hxn] at x0
   obtain ⟨w5, hrun, hs5, ht5⟩ := drop10 (HG.out.sets x hxk) n HNZ.out 0
   have ht5' : Turns (fun i => i = x.2.1) wr w5 := (Turns.refl _ wr).grown ht5.grown (fun k hk _ => by cases hk; rfl)
   have HG2 : Hid (Grp10 w5 B p (stepT (fun l => delV l n.data.toList) (l.take (k + 1)) T)) := by
    show Grp10 _ _ _ _
    rw [htk]
    exact HG.out.step hx (by rw [hxn]; exact hnot) hs5 ht5'
   have HT2 : Hid (Turns (fun i => ∃ x ∈ T, x.2.1 = i) w1 w5) := HT.out.next ht5' (fun i _ e => ⟨x, hx, e.symm⟩)
   clear hs5 ht5 ht5' htk hxk hx hnot HG HT hxn hkl
   generalize tx10 x.1 = sx at *
   generalize x.2.1 = bx at *
   go_wp2
   go_roundg (len - (k + 1))
   case measure => omega
   case rel => exact ⟨k + 1, by omega, by omega, by go_num, HG2, HT2⟩
  ·
   have hltz : ¬ (k : Int) < (len : Int) := by omega
   obtain rfl : k = len := by omega
   have hgd := HG.out
   rw [List.take_of_length_le (by have := HLEN.out; omega)] at hgd
   have HF : Hid (Goes10 w B p T (rmS10 (plain10 T) n.data.toList) wr) := ⟨p, _, hgd, HRM.out, (fun _ e => .inl e), fun y hy => .inl (by obtain ⟨x, hx, e⟩ := stepT_blk hy; exact ⟨x, hx, e⟩), (Turns.of_below HB2.out _).next HT.out (fun i _ e => .inr (.inr e))⟩
   clear hgd HG HT
   go_wp2
   go_ret
   exact ⟨by rw [← HLEN.out]; rfl, HF.out⟩

set_option maxRecDepth 100000 in
set_option maxHeartbeats 4000000 in
theorem rename10_calls (B : Nat) (p : Option Nat) (T : Rows10) (o n : ByteArray) (w : World) (h : Grp10 w B p T) (hf : T.length ≤ 1000) (hnm : ∀ x ∈ T, x.1.length ≤ 1000) (hlt : ∀ x ∈ T, x.2.2.length ≤ 1000) (ho : o.size ≤ 9223372036854775807) (hn : n.size ≤ 9223372036854775807) :
  Calls Tryz.prog 86 #[.pointer (some ⟨B, 0, none⟩), .string o, .string n] w fun e w' => e = .returned (.int .i64 (reE10 (plain10 T) o.data.toList n.data.toList)) ∧ Goes10 w B p T (reS10 (plain10 T) o.data.toList n.data.toList) w' := by
 have HOFO : Hid (∀ W, Below w.heap.size w W → Calls Tryz.prog 111 #[.pointer (some ⟨B, 0, none⟩), .string o] W (Names10 (of10 (plain10 T) o.data.toList) W)) := fun W hb => of10_calls B p T o W (h.later hb) hf ho
 have HOFN : Hid (∀ W, Below w.heap.size w W → Calls Tryz.prog 111 #[.pointer (some ⟨B, 0, none⟩), .string n] W (Names10 (of10 (plain10 T) n.data.toList) W)) := fun W hb => of10_calls B p T n W (h.later hb) hf hn
 have HB0 : Hid (Below w.heap.size w (w.alloc (.cells #[.string n] 9))) := below_alloc (Below.refl _ _) _
 have HN := Lib.hid (areNames_one w.heap.size n _ hn (show (w.alloc (.cells #[.string n] 9)).cell? ⟨w.heap.size, 0, none⟩ = some (.string n) by rw [World.cell?_alloc_at _ _ _ _ rfl]; rfl))
 have hrs : RiseV (plain10 T) := riseV_names h.rise (plain10_names T)
 have HRM := Lib.hid (renamed_all hrs o.data.toList n.data.toList)
 have HNZ : Hid (o.size ≤ maxLen) := Nat.le_trans ho (by decide)
 have HI := Lib.hid h
 have HLT := Lib.hid hlt
 have HTL0 : Hid (∀ g ∈ of10 (plain10 T) o.data.toList, ∃ x ∈ T, x.1 = g) := fun g hg => by
  have := of10_sub hg
  rw [plain10_names] at this
  obtain ⟨x, hx, e⟩ := List.mem_map.1 this
  exact ⟨x, hx, e⟩
 have HRL : Hid (RiseT (of10 (plain10 T) o.data.toList)) := of10_rise hrs _
 obtain ⟨l, hl⟩ : ∃ l, of10 (plain10 T) o.data.toList = l := ⟨_, rfl⟩
 rw [hl] at HOFO HRM HTL0 HRL
 have HL := Lib.hid hl
 have HTL : Hid (∀ k (h : k < l.length), ∃ x ∈ T, x.1 = l[k]) := fun k hk => HTL0.out _ (List.getElem_mem hk)
 have HLN : Hid (∀ g ∈ l, g.length ≤ maxLen) := fun g hg => by
  obtain ⟨x, hx, e⟩ := HTL0.out g hg
  rw [← e]
  exact Nat.le_trans (hnm x hx) (by decide)
 unfold reS10 reE10
 clear h hrs hl HTL0 ho hn hnm hlt
 cases hnn : name5 n.data.toList with
 | false =>
  rw [hnn] at HN
  show Calls _ _ _ _ fun e w' => e = .returned (.int .i64 10) ∧ Goes10 w B p T (plain10 T) w'
  clear hnn
  go_enter Tryz.func86, Tryz.ntmps86
  go_wp2_with fail
  with_reducible refine HN.out.mono ?_
  rintro e w1 ⟨rfl, hb⟩
  have HB := Lib.hid (below_next HB0.out hb)
  clear hb HN
  go_wp2
  go_ret
  exact ⟨rfl, Goes10.still HI.out HB.out⟩
 | true =>
  have HSZ := Lib.hid (name10_size hnn)
  rw [hnn] at HN
  clear hnn
  by_cases e : n.data.toList = o.data.toList
  ·
   have hon : n = o := by rw [← tx10_back n, e, tx10_back]
   have e0 : (if true = true then if n.data.toList ≠ o.data.toList ∧ of10 (plain10 T) n.data.toList ≠ [] then (9 : Int) else 0 else 10) = 0 := by simp [e]
   rw [e0, if_pos rfl]
   clear e e0 HOFN
   subst hon
   have n1 : (n.toList != n.toList) = false := by simp
   have n2 : (n.toList == n.toList) = true := by simp
   go_enter Tryz.func86, Tryz.ntmps86
   go_wp2_with fail
   with_reducible refine HN.out.mono ?_
   rintro e w9 ⟨rfl, hb⟩
   have HB1 := Lib.hid (below_next HB0.out hb)
   have HOF := Lib.hid (HOFO.out _ HB1.out)
   clear hb HN HOFO
   go_wp2_with fail
   with_reducible refine HOF.out.mono ?_
   rintro e w1 ⟨v, rfl, hr, hb⟩
   have HRO := Lib.hid hr
   have HB2 := Lib.hid (below_next HB1.out hb)
   have HI2 := Lib.hid (HI.out.later (below_next HB1.out hb))
   obtain ⟨A, c, rfl⟩ := row10_shape hr
   have hcl : l.length ≤ T.length := by rw [← HL.out]; exact Nat.le_trans (of10_le _ _) (Nat.le_of_eq (plain10_len T))
   obtain ⟨len, hlen⟩ : ∃ len, len = l.length := ⟨_, rfl⟩
   rw [← hlen] at hcl ⊢
   have HLEN := Lib.hid hlen
   have hlz : len ≤ 1000 := by omega
   have HCL := Lib.hid hcl
   clear hr hb hlen hcl
   clear HOF
   go_wp2
   go_loopg [27] len (fun gg s27 wr => ∃ k : Nat, k ≤ len ∧ len - k ≤ gg ∧ s27 = .int .i64 k ∧ Hid (Grp10 wr B p (stepT (fun l => putV (delV l n.data.toList) n.data.toList ()) (l.take k) T)) ∧ Hid (Turns (fun i => ∃ x ∈ T, x.2.1 = i) w1 wr))
   case atStart => exact ⟨0, Nat.zero_le _, by omega, rfl, (by show Grp10 _ _ _ _; rw [List.take_zero, stepT_nil]; exact HI2.out), Turns.refl _ _⟩
   case round =>
    obtain ⟨k, hk, hg, rfl, HG, HT⟩ := hrel
    by_cases hlt : k < len
    ·
     have hltz : (k : Int) < (len : Int) := by omega
     have hkl : k < l.length := HLEN.out ▸ hlt
     obtain ⟨x, hx, hxn⟩ := HTL.out k hkl
     have hnot : l[k] ∉ l.take k := riseT_take HRL.out hkl
     have hxk : x ∈ stepT (fun l => putV (delV l n.data.toList) n.data.toList ()) (l.take k) T := stepT_mem hx (by rw [hxn]; exact hnot)
     obtain ⟨g, cap, e2, x0⟩ := row10_at HRO.out HT.out (fun i c0 T0 fr hi _ hS => by obtain ⟨y, hy, e⟩ := hS; exact map_ne_cells10 (HI2.out.sets y hy) hi e) hkl
     injection e2 with e2 e2n e2c
     subst e2
     clear e2n e2c
     have c0 := HG.out.cell
     have htk : l.take (k + 1) = l.take k ++ [x.1] := by rw [List.take_succ_eq_append_getElem hkl, hxn]
     have l1 := look101 HG.out (tx10 l[k]) (by rw [tx10_size]; exact HLN.out _ (List.getElem_mem hkl))
     rw [tx10_list, ← hxn, blk10_some HG.out.rise hxk] at l1
     rw [← hxn] at x0
     obtain ⟨w5, hrun, hs5, ht5⟩ := drop10 (HG.out.sets x hxk) n HNZ.out 0
     have ht5' : Turns (fun i => i = x.2.1) wr w5 := (Turns.refl _ wr).grown ht5.grown (fun k hk _ => by cases hk; rfl)
     have hg5 := HG.out.turned hxk (fun l => delV l n.data.toList) hs5 ht5'
     have hx5 : (x.1, (x.2.1, delV x.2.2 n.data.toList)) ∈ updV (fun v : Nat × Set10 => (v.1, delV v.2 n.data.toList)) (stepT (fun l => putV (delV l n.data.toList) n.data.toList ()) (l.take k) T) x.1 := List.mem_map.2 ⟨x, hxk, if_pos rfl⟩
     have l5 := look101 hg5 (tx10 x.1) (by rw [tx10_size, hxn]; exact HLN.out _ (List.getElem_mem hkl))
     rw [tx10_list, blk10_some hg5.rise hx5] at l5
     have c5 := hg5.cell
     have HAD : Hid (Calls Tryz.prog 134 #[.map (some x.2.1), .string n] w5 fun e w' => e = .returned (.tuple #[]) ∧ Grp10 w' B p (stepT (fun l => putV (delV l n.data.toList) n.data.toList ()) (l.take (k + 1)) T) ∧ Turns (fun i => ∃ x ∈ T, x.2.1 = i) w1 w') :=
      (setadd10_calls x.2.1 (delV x.2.2 n.data.toList) n w5 hs5 (Nat.le_trans (delV_le _ _) (HLT.out x hx)) HSZ.out).mono fun e w' ⟨he, h2, h3⟩ => by
       refine ⟨he, ?_, HT.out.next (ht5'.next h3 (fun i _ e => e)) (fun i _ e => ⟨x, hx, e.symm⟩)⟩
       rw [htk]
       exact HG.out.step hx (by rw [hxn]; exact hnot) h2 (ht5'.next h3 (fun i _ e => e))
     clear hs5 ht5 ht5' htk hxk hx hnot HG HT hxn hkl hg5 hx5
     generalize tx10 x.1 = sx at *
     generalize x.2.1 = bx at *
     go_wp2_with (go_at_call 134; (with_reducible refine HAD.out.mono ?_); rintro e w6 ⟨rfl, hg6, ht6⟩; have HG2 := Lib.hid hg6; have HT2 := Lib.hid ht6; clear hg6 ht6)
     go_roundg (len - (k + 1))
     case measure => omega
     case rel => exact ⟨k + 1, by omega, by omega, by go_num, HG2, HT2⟩
    ·
     have hltz : ¬ (k : Int) < (len : Int) := by omega
     obtain rfl : k = len := by omega
     have hgd := HG.out
     rw [List.take_of_length_le (by have := HLEN.out; omega)] at hgd
     have HF : Hid (Goes10 w B p T ((plain10 T).map fun p => (p.1, ren10 n.data.toList n.data.toList p.2)) wr) := ⟨p, _, hgd, HRM.out, (fun _ e => .inl e), fun y hy => .inl (by obtain ⟨x, hx, e⟩ := stepT_blk hy; exact ⟨x, hx, e⟩), (Turns.of_below HB2.out _).next HT.out (fun i _ e => .inr (.inr e))⟩
     clear hgd HG HT
     go_wp2
     go_ret
     exact ⟨rfl, HF.out⟩
  ·
   have n2 : (n.toList == o.toList) = false := by rw [Lib.toList_data, Lib.toList_data]; simpa using e
   have n1 : ¬ n.toList = o.toList := by simpa using n2
   by_cases h9 : of10 (plain10 T) n.data.toList = []
   ·
    have e0 : (if true = true then if n.data.toList ≠ o.data.toList ∧ of10 (plain10 T) n.data.toList ≠ [] then (9 : Int) else 0 else 10) = 0 := by simp [h9]
    rw [e0, if_pos rfl]
    rw [h9] at HOFN
    clear e e0 h9
    go_enter Tryz.func86, Tryz.ntmps86
    go_wp2_with fail
    with_reducible refine HN.out.mono ?_
    rintro e w7 ⟨rfl, hb⟩
    have HB7 := Lib.hid (below_next HB0.out hb)
    have HON := Lib.hid (HOFN.out _ HB7.out)
    clear hb HN HOFN
    go_wp2_with fail
    with_reducible refine HON.out.mono ?_
    rintro e w8 ⟨v8, rfl, hr8, hb⟩
    obtain ⟨A8, c8, rfl⟩ := row10_shape hr8
    have HB1 := Lib.hid (below_next HB7.out hb)
    have HOF := Lib.hid (HOFO.out _ HB1.out)
    clear hb hr8 HON HOFO
    go_wp2_with fail
    with_reducible refine HOF.out.mono ?_
    rintro e w1 ⟨v, rfl, hr, hb⟩
    have HRO := Lib.hid hr
    have HB2 := Lib.hid (below_next HB1.out hb)
    have HI2 := Lib.hid (HI.out.later (below_next HB1.out hb))
    obtain ⟨A, c, rfl⟩ := row10_shape hr
    have hcl : l.length ≤ T.length := by rw [← HL.out]; exact Nat.le_trans (of10_le _ _) (Nat.le_of_eq (plain10_len T))
    obtain ⟨len, hlen⟩ : ∃ len, len = l.length := ⟨_, rfl⟩
    rw [← hlen] at hcl ⊢
    have HLEN := Lib.hid hlen
    have hlz : len ≤ 1000 := by omega
    have HCL := Lib.hid hcl
    clear hr hb hlen hcl
    clear HOF
    go_wp2
    go_loopg [27] len (fun gg s27 wr => ∃ k : Nat, k ≤ len ∧ len - k ≤ gg ∧ s27 = .int .i64 k ∧ Hid (Grp10 wr B p (stepT (fun l => putV (delV l o.data.toList) n.data.toList ()) (l.take k) T)) ∧ Hid (Turns (fun i => ∃ x ∈ T, x.2.1 = i) w1 wr))
    case atStart => exact ⟨0, Nat.zero_le _, by omega, rfl, (by show Grp10 _ _ _ _; rw [List.take_zero, stepT_nil]; exact HI2.out), Turns.refl _ _⟩
    case round =>
     obtain ⟨k, hk, hg, rfl, HG, HT⟩ := hrel
     by_cases hlt : k < len
     ·
      have hltz : (k : Int) < (len : Int) := by omega
      have hkl : k < l.length := HLEN.out ▸ hlt
      obtain ⟨x, hx, hxn⟩ := HTL.out k hkl
      have hnot : l[k] ∉ l.take k := riseT_take HRL.out hkl
      have hxk : x ∈ stepT (fun l => putV (delV l o.data.toList) n.data.toList ()) (l.take k) T := stepT_mem hx (by rw [hxn]; exact hnot)
      obtain ⟨g, cap, e2, x0⟩ := row10_at HRO.out HT.out (fun i c0 T0 fr hi _ hS => by obtain ⟨y, hy, e⟩ := hS; exact map_ne_cells10 (HI2.out.sets y hy) hi e) hkl
      injection e2 with e2 e2n e2c
      subst e2
      clear e2n e2c
      have c0 := HG.out.cell
      have htk : l.take (k + 1) = l.take k ++ [x.1] := by rw [List.take_succ_eq_append_getElem hkl, hxn]
      have l1 := look101 HG.out (tx10 l[k]) (by rw [tx10_size]; exact HLN.out _ (List.getElem_mem hkl))
      rw [tx10_list, ← hxn, blk10_some HG.out.rise hxk] at l1
      rw [← hxn] at x0
      obtain ⟨w5, hrun, hs5, ht5⟩ := drop10 (HG.out.sets x hxk) o HNZ.out 0
      have ht5' : Turns (fun i => i = x.2.1) wr w5 := (Turns.refl _ wr).grown ht5.grown (fun k hk _ => by cases hk; rfl)
      have hg5 := HG.out.turned hxk (fun l => delV l o.data.toList) hs5 ht5'
      have hx5 : (x.1, (x.2.1, delV x.2.2 o.data.toList)) ∈ updV (fun v : Nat × Set10 => (v.1, delV v.2 o.data.toList)) (stepT (fun l => putV (delV l o.data.toList) n.data.toList ()) (l.take k) T) x.1 := List.mem_map.2 ⟨x, hxk, if_pos rfl⟩
      have l5 := look101 hg5 (tx10 x.1) (by rw [tx10_size, hxn]; exact HLN.out _ (List.getElem_mem hkl))
      rw [tx10_list, blk10_some hg5.rise hx5] at l5
      have c5 := hg5.cell
      have HAD : Hid (Calls Tryz.prog 134 #[.map (some x.2.1), .string n] w5 fun e w' => e = .returned (.tuple #[]) ∧ Grp10 w' B p (stepT (fun l => putV (delV l o.data.toList) n.data.toList ()) (l.take (k + 1)) T) ∧ Turns (fun i => ∃ x ∈ T, x.2.1 = i) w1 w') :=
       (setadd10_calls x.2.1 (delV x.2.2 o.data.toList) n w5 hs5 (Nat.le_trans (delV_le _ _) (HLT.out x hx)) HSZ.out).mono fun e w' ⟨he, h2, h3⟩ => by
        refine ⟨he, ?_, HT.out.next (ht5'.next h3 (fun i _ e => e)) (fun i _ e => ⟨x, hx, e.symm⟩)⟩
        rw [htk]
        exact HG.out.step hx (by rw [hxn]; exact hnot) h2 (ht5'.next h3 (fun i _ e => e))
      clear hs5 ht5 ht5' htk hxk hx hnot HG HT hxn hkl hg5 hx5
      generalize tx10 x.1 = sx at *
      generalize x.2.1 = bx at *
      go_wp2_with (go_at_call 134; (with_reducible refine HAD.out.mono ?_); rintro e w6 ⟨rfl, hg6, ht6⟩; have HG2 := Lib.hid hg6; have HT2 := Lib.hid ht6; clear hg6 ht6)
      go_roundg (len - (k + 1))
      case measure => omega
      case rel => exact ⟨k + 1, by omega, by omega, by go_num, HG2, HT2⟩
     ·
      have hltz : ¬ (k : Int) < (len : Int) := by omega
      obtain rfl : k = len := by omega
      have hgd := HG.out
      rw [List.take_of_length_le (by have := HLEN.out; omega)] at hgd
      have HF : Hid (Goes10 w B p T ((plain10 T).map fun p => (p.1, ren10 o.data.toList n.data.toList p.2)) wr) := ⟨p, _, hgd, HRM.out, (fun _ e => .inl e), fun y hy => .inl (by obtain ⟨x, hx, e⟩ := stepT_blk hy; exact ⟨x, hx, e⟩), (Turns.of_below HB2.out _).next HT.out (fun i _ e => .inr (.inr e))⟩
      clear hgd HG HT
      go_wp2
      go_ret
      exact ⟨rfl, HF.out⟩
   ·
    have e9 : (if true = true then if n.data.toList ≠ o.data.toList ∧ of10 (plain10 T) n.data.toList ≠ [] then (9 : Int) else 0 else 10) = 9 := by simp [h9, e]
    rw [e9, if_neg (by decide)]
    have hpos : 0 < (of10 (plain10 T) n.data.toList).length := List.length_pos_iff.2 h9
    clear e e9 h9
    generalize of10 (plain10 T) n.data.toList = ln at *
    go_enter Tryz.func86, Tryz.ntmps86
    go_wp2_with fail
    with_reducible refine HN.out.mono ?_
    rintro e w7 ⟨rfl, hb⟩
    have HB7 := Lib.hid (below_next HB0.out hb)
    have HON := Lib.hid (HOFN.out _ HB7.out)
    clear hb HN HOFN
    go_wp2_with fail
    with_reducible refine HON.out.mono ?_
    rintro e w8 ⟨v8, rfl, hr8, hb⟩
    obtain ⟨A8, c8, rfl⟩ := row10_shape hr8
    have HB1 := Lib.hid (below_next HB7.out hb)
    clear hb hr8 HON HOFO
    generalize ln.length = q at *
    have hposz : (q : Int) > 0 := by omega
    have hposd : decide ((q : Int) > 0) = true := decide_eq_true hposz
    go_wp2
    go_ret
    exact ⟨rfl, Goes10.still HI.out HB1.out⟩
end Go.Proofs.YthlgmkfofebbfaaGreatDoor


namespace Go.Proofs.YthlgmkfofebbfaaGreatDoor
open Go.RowKit Go.Maps

theorem riseV_ext {V : Type} : ∀ {a b : RowV V}, RiseV a → RiseV b → (∀ x, x ∈ a ↔ x ∈ b) → a = b
 | [], [], _, _, _ => rfl
 | [], y :: s, _, _, h => absurd ((h y).2 (by simp)) (by simp)
 | x :: r, [], _, _, h => absurd ((h x).1 (by simp)) (by simp)
 | x :: r, y :: s, ha, hb, h => by
  obtain ⟨a1, a2⟩ := List.pairwise_cons.1 ha
  obtain ⟨b1, b2⟩ := List.pairwise_cons.1 hb
  have e : x = y := by
   rcases List.mem_cons.1 ((h x).1 (by simp)) with e | hx
   ·
    exact e
   ·
    rcases List.mem_cons.1 ((h y).2 (by simp)) with e | hy
    ·
     exact e.symm
    ·
     exact absurd (b1 _ hx) (by rw [before_anti (a1 _ hy)]; exact Bool.noConfusion)
  subst e
  rw [riseV_ext a2 b2 fun z => ?_]
  constructor
  ·
   intro hz
   rcases List.mem_cons.1 ((h z).1 (by simp [hz])) with e | h'
   ·
    subst e; exact absurd (a1 _ hz) (by rw [before_irrefl]; exact Bool.noConfusion)
   ·
    exact h'
  ·
   intro hz
   rcases List.mem_cons.1 ((h z).2 (by simp [hz])) with e | h'
   ·
    subst e; exact absurd (b1 _ hz) (by rw [before_irrefl]; exact Bool.noConfusion)
   ·
    exact h'
def Cop10 (S' S : Grs10) (left : Lit → Bool) : Prop := RiseV S' ∧ ∀ q, q ∈ S' ↔ q ∈ S ∧ left (.string q.1) = false
theorem Cop10.start (T : Rows10) : Cop10 [] (plain10 T) (Maps.has (datV eb10 T)) := ⟨List.Pairwise.nil, fun q => by
 constructor
 ·
  intro h; cases h
 ·
  rintro ⟨hq, h⟩
  rw [datV_has, ← plain10_has, hasV_iff.2 ⟨q, hq, rfl⟩] at h
  cases h⟩
theorem Cop10.step {S' S : Grs10} {left : Lit → Bool} (hr : RiseV S) (h : Cop10 S' S left) {k : List UInt8} {l : Set10} (hk : (k, l) ∈ S) : Cop10 (putV S' k l) S (fun z => left z && !z.sameKey (.string k)) := by
 refine ⟨riseV_put h.1 k l, fun q => ?_⟩
 rw [mem_putV, h.2]
 by_cases e : q.1 = k
 ·
  constructor
  ·
   rintro (rfl | ⟨_, h'⟩)
   ·
    exact ⟨hk, by simp [Lit.sameKey]⟩
   ·
    exact absurd e h'
  ·
   rintro ⟨hq, _⟩
   exact .inl (riseV_one hr hq hk e)
 ·
  constructor
  ·
   rintro (rfl | ⟨⟨hq, hl⟩, _⟩)
   ·
    exact absurd rfl e
   ·
    exact ⟨hq, by simp [hl]⟩
  ·
   rintro ⟨hq, hl⟩
   exact .inr ⟨⟨hq, by simpa [Lit.sameKey, e] using hl⟩, e⟩
theorem Cop10.end_ {S' S : Grs10} {left : Lit → Bool} (hr : RiseV S) (h : Cop10 S' S left) (hl : ∀ kl, left kl = false) : S' = S :=
 riseV_ext h.1 hr fun q => by rw [h.2, hl]; simp
theorem ranges_turns10 {w w' : World} {P : Program} {k : TypeId} {R : Value → Option (DataW Unit × List MemPlace)} {b r n : Nat} {D : DataW Unit} {left : Lit → Bool} {cnt : Nat} {S : Nat → Prop} (h : w.ranges P k R b r n D left cnt) (ht : Turns S w w') (hb : ¬ S b) (hr : ¬ S r) : w'.ranges P k R b r n D left cnt := by
 have h1 := h.owns.lt
 have h2 := h.lt
 obtain ⟨es, clock, since, seen, c0, hb', F, hs, hD, hr', rest⟩ := h
 exact ⟨es, clock, since, seen, c0, (ht.block b h1 hb).trans hb', F, hs, hD, (ht.block r h2 hr).trans hr', rest⟩
theorem iter_ne10 {w : World} {P : Program} {k : TypeId} {R : Value → Option (DataW Unit × List MemPlace)} {b r n : Nat} {D : DataW Unit} {left : Lit → Bool} {cnt : Nat} (h : w.ranges P k R b r n D left cnt) :
  (∀ c T fr, w.heap[r]? ≠ some (.cells c T fr)) ∧ ∀ es cl, w.heap[r]? ≠ some (.map es cl) := by
 obtain ⟨es, clock, since, seen, c0, _, _, _, _, hr', _⟩ := h
 refine ⟨fun c T fr e => ?_, fun es cl e => ?_⟩
 ·
  rw [hr'] at e
  injection e with e
  cases e
 ·
  rw [hr'] at e
  injection e with e
  cases e
theorem owns_obj10 {w : World} {R : Value → Option (DataW Unit × List MemPlace)} {b n : Nat} {D : DataW Unit} (h : w.ownsMap Tryz.prog 9 R b n D) : ∃ es cl, w.heap[b]? = some (.map es cl) := by
 obtain ⟨es, clock, h1, _⟩ := h
 exact ⟨es, clock, h1⟩
theorem clone10_calls (b : Nat) (L : Set10) (w : World) (h : Set10At w b L) : Calls Tryz.prog 138 #[.map (some b)] w fun e w' => e = .returned (.map (some w.heap.size)) ∧ Set10At w' w.heap.size L ∧ Below w.heap.size w w' :=
 (AnyW.maps_Clone_owns Tryz.clone10 9 _ b _ _ w h).mono fun _ _ ⟨he, h1, _, hb⟩ => ⟨he, h1, hb⟩

def New10 (w W : World) (B : Nat) (p : Option Nat) (T : Rows10) : Prop := Grp10 W B p T ∧ w.heap.size ≤ B ∧ (∀ b, p = some b → w.heap.size ≤ b) ∧ ∀ x ∈ T, w.heap.size ≤ x.2.1
def Apart10 (S : Grs10) (w : World) (e : Ending) (w' : World) : Prop := ∃ b p T, e = .returned (.pointer (some ⟨b, 0, none⟩)) ∧ New10 w w' b p T ∧ plain10 T = S ∧ Below w.heap.size w w'
theorem PutTo10.new {w W W' : World} {B b : Nat} {p : Option Nat} {T : Rows10} {k : List UInt8} {l : Set10} (h : PutTo10 W B p (putV T k (b, l)) W') (hn : New10 w W B p T) (hw : w.heap.size ≤ W.heap.size) (hb : w.heap.size ≤ b) : ∃ p', New10 w W' B p' (putV T k (b, l)) ∧ Turns (fun i => i = B ∨ p = some i) W W' := by
 obtain ⟨p', hd, hp, ht⟩ := h
 obtain ⟨_, h1, h2, h3⟩ := hn
 refine ⟨p', ⟨hd, h1, fun c e => ?_, fun x hx => ?_⟩, ht⟩
 ·
  rcases hp c e with e | e
  ·
   exact h2 c e
  ·
   exact Nat.le_trans hw e
 ·
  rcases mem_putV.1 hx with rfl | ⟨hx, _⟩
  ·
   exact hb
  ·
   exact h3 x hx

set_option maxRecDepth 100000 in
set_option maxHeartbeats 2000000 in
theorem copy10_some (B m : Nat) (T : Rows10) (w : World) (h : Grp10 w B (some m) T) (hf : T.length ≤ 1000) (hnm : ∀ x ∈ T, x.1.length ≤ 1000) :
  Calls Tryz.prog 105 #[.pointer (some ⟨B, 0, none⟩)] w (Apart10 (plain10 T) w) := by
 have HNEW := Lib.hid (new10_calls w)
 have hb0 : Below w.heap.size w (w.alloc (.cells #[.map none] 104)) := below_alloc (Below.refl _ _) _
 have h1 := h.later hb0
 have hc := h1.cell
 have hown := h1.map m rfl
 have hml := h.mlt m rfl
 have HI := Lib.hid h
 have HNM := Lib.hid hnm
 have HW0 : Hid (New10 w (w.alloc (.cells #[.map none] 104)) w.heap.size none []) := ⟨grp10_new w, Nat.le_refl _, (fun _ h => nomatch h), (fun _ h => nomatch h)⟩
 have HB0 := Lib.hid hb0
 have hsz : Maps.size (datV eb10 T) = T.length := datV_size eb10 T
 have hs1 : (w.alloc (.cells #[.map none] 104)).heap.size = w.heap.size + 1 := by simp
 have hrs : RiseV (plain10 T) := riseV_names h.rise (plain10_names T)
 have HRS := Lib.hid hrs
 obtain ⟨C, hC⟩ : ∃ C, C = w.heap.size := ⟨_, rfl⟩
 rw [← hC] at HNEW HW0 hs1
 obtain ⟨len, hlen⟩ : ∃ len, len = T.length := ⟨_, rfl⟩
 rw [← hlen] at hf hsz
 have HLN := Lib.hid hlen
 have HCC := Lib.hid hC
 clear h h1 hb0 hnm hrs hlen hC
 go_enter Tryz.func105, Tryz.ntmps105
 go_wp2_with fail
 with_reducible refine HNEW.out.mono ?_
 rintro e w1 ⟨rfl, rfl⟩
 generalize w.alloc (.cells #[.map none] 104) = w1 at *
 go_wp2_with (first
  | (at_range; refine wpList_range_own _ rfl _ 102 rfl 9 132 keyed10 Tryz.underlying102 _ m _ _ rfl hown ?_; intro w0 hrg0 hg0 hs0)
  | go_in)
 go_frame
 rw [hsz, ← HLN.out] at hrg0
 rw [hs1] at hrg0 hs0 ⊢
 have hb01 : Below w1.heap.size w1 w0 := (Below.refl _ _).grown hg0 (Nat.le_refl _) (fun j hj => by cases hj)
 have HN0 : Hid (New10 w w0 C none []) := ⟨HW0.out.1.later hb01, HW0.out.2⟩
 have HBB : Hid (Below w.heap.size w w0) := below_next HB0.out hb01
 clear hg0 hs0 hown hsz hc hb01 HW0 HB0
 go_loopw [4] (fun _ wr => ∃ (left : Lit → Bool) (cnt : Nat) (p' : Option Nat) (T' : Rows10), Hid (wr.ranges Tryz.prog 9 R10 m (C + 1) len (datV eb10 T) left cnt) ∧ T'.length + cnt ≤ len ∧
   Hid (New10 w wr C p' T') ∧ Hid (Cop10 (plain10 T') (plain10 T) left) ∧ Hid (Below w.heap.size w wr))
  (fun _ wr => wr.rangeLeft m (C + 1))
 case atStart => exact ⟨_, _, none, [], hrg0, by simp, HN0, Cop10.start T, HBB⟩
 case round =>
  obtain ⟨left, cnt, p', T', HRG, hcs, HNW, HC, HBW⟩ := hrel
  have hrg := HRG.out
  go_wp2_with (first
   | (at_next; refine wpList_next_ranges _ rfl _ rfl 9 keyed10 R10 encStr Value.map (fun key kl hk => by obtain ⟨x, hx, _⟩ := Maps.keyOf_str Tryz.underlying9 hk; exact ⟨x, hx⟩) (fun v y hv => by obtain ⟨c, rfl, _⟩ := r10_inv hv; exact ⟨c, rfl⟩) m (C + 1) len _ _ _ rfl hrg ?_ ?_)
   | go_in)
  ·
   intro hc0 hl0
   have hend := HC.out.end_ HRS.out hl0
   have HF : Hid (Apart10 (plain10 T) w (.returned (.pointer (some ⟨C, 0, none⟩))) wr) := ⟨C, p', T', rfl, HNW.out, hend, HBW.out⟩
   clear hend hl0 hrg
   go_wp2
   go_ret
   exact HF.out
  ·
   intro x c kl yd yp w2 cnt2 hkey hlk hv hat hrg2 hlt hg2 hs2 hen
   obtain ⟨x', ex, rfl, _⟩ := Maps.keyOf_str Tryz.underlying9 hkey
   obtain rfl : x = x' := encStr_inj ex
   obtain ⟨q, hqT, rfl, hpe⟩ := coll10_at HI.out.rise hat
   obtain rfl : (some q.2.1) = c := by
    obtain ⟨o, ho, hz⟩ := r10_inv hv
    have e1 : c = o := by injection ho
    have e2 : ob10 (some q.2.1) = ob10 o := hpe.trans hz
    rw [e1]; exact ob10_inj e2
   have hit := iter_ne10 hrg
   have hrr : w.heap.size ≤ C + 1 := by rw [← HCC.out]; omega
   have hnx2 : Below w.heap.size w w2 := HBW.out.grown hg2 HBW.out.size (fun j hj => by cases hj; exact hrr)
   have hgt : Turns (fun i => i = C + 1) wr w2 := (Turns.refl _ wr).grown hg2 (fun j hj _ => by cases hj; rfl)
   have hN2 : New10 w w2 C p' T' := by
    refine ⟨HNW.out.1.turns hgt (fun e => ?_) (fun b hb e => ?_) (fun x hx e => ?_), HNW.out.2⟩
    ·
     have := HNW.out.1.blk
     rw [e] at this
     exact hit.1 _ _ _ this
    ·
     obtain ⟨es, cl, ho⟩ := owns_obj10 (HNW.out.1.map b hb)
     rw [e] at ho
     exact hit.2 _ _ ho
    ·
     obtain ⟨es, cl, ho⟩ := owns_obj10 (HNW.out.1.sets x hx)
     rw [e] at ho
     exact hit.2 _ _ ho
   have HLT : Hid (cnt2 < wr.rangeLeft m (C + 1)) := by rw [show wr.rangeLeft m (C + 1) = cnt from hrg.left_eq]; exact hlt
   have hset : Set10At w2 q.2.1 q.2.2 := (HI.out.later hnx2).sets q hqT
   have hcl := clone10_calls q.2.1 q.2.2 w2 hset
   have hkv : encStr q.1 = .string (tx10 q.1) := rfl
   have hkl2 : (tx10 q.1).size ≤ 1000 := by rw [tx10_size]; exact HNM.out q hqT
   have hln2 : T'.length ≤ 1000 := by omega
   have hcop := HC.out.step HRS.out (k := q.1) (l := q.2.2) (List.mem_map.2 ⟨q, hqT, rfl⟩)
   have HPUT : Hid (∀ W, Below w2.heap.size w2 W → w2.heap.size < W.heap.size → Set10At W w2.heap.size q.2.2 → Calls Tryz.prog 127 #[.pointer (some ⟨C, 0, none⟩), .string (tx10 q.1), .map (some w2.heap.size)] W fun e w' => e = .returned (.tuple #[]) ∧
     ∃ p3 T3, Hid (w'.ranges Tryz.prog 9 R10 m (C + 1) len (datV eb10 T) (fun z => left z && !z.sameKey (.string q.1)) cnt2) ∧ T3.length + cnt2 ≤ len ∧ Hid (New10 w w' C p3 T3) ∧ Hid (Cop10 (plain10 T3) (plain10 T) (fun z => left z && !z.sameKey (.string q.1))) ∧ Hid (Below w.heap.size w w')) := fun W hb hlt2 hsW => by
    have hNW : New10 w W C p' T' := ⟨hN2.1.later hb, hN2.2⟩
    refine (put10_calls C w2.heap.size p' T' q.2.2 (tx10 q.1) W hNW.1 hsW (fun x hx e => ?_) (fun e => ?_) hln2 hkl2).mono fun e w' ⟨he, hp⟩ => ?_
    ·
     have := hN2.1.slt x hx; omega
    ·
     have := hN2.1.mlt _ e; omega
    ·
     obtain ⟨p3, hn3, ht3⟩ := hp.new hNW (Nat.le_trans hnx2.size hb.size) hnx2.size
     rw [tx10_list] at hn3
     have hrgW := ranges_below10 hrg2 hb
     have hitW := iter_ne10 hrgW
     refine ⟨he, p3, _, ranges_turns10 hrgW ht3 (fun e => ?_) (fun e => ?_), ?_, hn3, (by show Cop10 _ _ _; rw [plain10_put]; exact hcop), ?_⟩
     ·
      rcases e with e | e
      ·
       have := hNW.2.1; omega
      ·
       have := hNW.2.2.1 _ e; omega
     ·
      rcases e with e | e
      ·
       have := hNW.1.blk
       rw [← e] at this
       exact hitW.1 _ _ _ this
      ·
       obtain ⟨es, cl, ho⟩ := owns_obj10 (hNW.1.map _ e)
       exact hitW.2 _ _ ho
     ·
      have := putV_le T' q.1 (w2.heap.size, q.2.2); omega
     ·
      exact (below_next hnx2 hb).trans (Turns.below_at ht3 (Nat.le_trans hnx2.size hb.size) (by
       rintro i (e | e)
       ·
        rw [e]; exact hNW.2.1
       ·
        exact hNW.2.2.1 i e))
   have HCL := Lib.hid hcl
   rw [hkv] at hen ⊢
   clear hs2 hnx2 hN2 hset hcl hkl2 hln2 hcop hat hv hpe hkey hg2 HRG hrg HNW HC hit hgt hlk hqT hkv hlt hrg2
   generalize tx10 q.1 = kv at *
   generalize q.2.1 = qb at *
   go_wp2_with fail
   with_reducible refine HCL.out.mono ?_
   rintro e w3 ⟨rfl, hs3, hb3⟩
   have HP3 := Lib.hid (HPUT.out w3 hb3 (World.ownsMap.lt hs3) hs3)
   clear hs3 hb3 HCL HPUT
   go_wp2_with fail
   with_reducible refine HP3.out.mono ?_
   rintro e w4 ⟨rfl, p4, T4, HR4, hc4, HN4, HC4, HB4⟩
   clear HP3
   go_wp2
   go_roundw
   case rel => exact ⟨_, cnt2, p4, T4, HR4, hc4, HN4, HC4, HB4⟩
   case measure => rw [HR4.out.left_eq]; exact HLT.out
set_option maxRecDepth 100000 in
theorem copy10_none (B : Nat) (w : World) (h : Grp10 w B none []) : Calls Tryz.prog 105 #[.pointer (some ⟨B, 0, none⟩)] w (Apart10 [] w) := by
 have HNEW := Lib.hid (new10_calls w)
 have hb0 : Below w.heap.size w (w.alloc (.cells #[.map none] 104)) := below_alloc (Below.refl _ _) _
 have hc := (h.later hb0).cell
 have hrg := run_range_nilMap (P := Tryz.prog) (w.alloc (.cells #[.map none] 104)) 102 9 132 Tryz.underlying102
 have hnx : ∀ ty, (Instr.next (.pointer (some ⟨(w.alloc (.cells #[.map none] 104)).heap.size, 0, none⟩)) false ty).run Tryz.prog ((w.alloc (.cells #[.map none] 104)).alloc (.mapIter none 0 #[] 0)) = _ := fun ty => run_next_nilMap _ ty 0 0 #[]
 have e1 : (w.alloc (.cells #[.map none] 104)).heap.size = w.heap.size + 1 := by simp
 rw [e1] at hrg hnx
 have HF : Hid (Apart10 [] w (.returned (.pointer (some ⟨w.heap.size, 0, none⟩))) ((w.alloc (.cells #[.map none] 104)).alloc (.mapIter none 0 #[] 0))) := by
  have hb1 : Below (w.alloc (.cells #[.map none] 104)).heap.size (w.alloc (.cells #[.map none] 104)) ((w.alloc (.cells #[.map none] 104)).alloc (.mapIter none 0 #[] 0)) := below_alloc (Below.refl _ _) _
  exact ⟨_, none, [], rfl, ⟨(grp10_new w).later hb1, Nat.le_refl _, (fun _ h => nomatch h), (fun _ h => nomatch h)⟩, rfl, below_next hb0 hb1⟩
 clear h hb0 e1
 go_enter Tryz.func105, Tryz.ntmps105
 go_wp2_with fail
 with_reducible refine HNEW.out.mono ?_
 rintro e w1 ⟨rfl, rfl⟩
 go_wp2
 refine wp_loop_rounds 1 ?_
 rw [rounds_succ]
 go_wp2
 go_ret
 exact HF.out
theorem copy10_calls (B : Nat) (p : Option Nat) (T : Rows10) (w : World) (h : Grp10 w B p T) (hf : T.length ≤ 1000) (hnm : ∀ x ∈ T, x.1.length ≤ 1000) :
  Calls Tryz.prog 105 #[.pointer (some ⟨B, 0, none⟩)] w (Apart10 (plain10 T) w) := by
 cases p with
 | none =>
  have := h.nil rfl
  subst this
  exact copy10_none B w h
 | some m => exact copy10_some B m T w h hf hnm
end Go.Proofs.YthlgmkfofebbfaaGreatDoor


namespace Go.Proofs.YthlgmkfofebbfaaGreatDoor
open Go.RowKit Go.Maps

/-! ### accounts -/
def ea11 : List UInt8 × Bool → DataW Unit := fun a => .agg [.lit (.string a.1), .lit (.bool a.2)]
def rdA11 : List Value → Option (DataW Unit × List MemPlace)
 | [.string s, .bool b] => some (.agg [.lit (.string s.data.toList), .lit (.bool b)], [])
 | _ => none
def RA11 : Value → Option (DataW Unit × List MemPlace)
 | .agg c => rdA11 c.toList
 | _ => none
theorem ra11_inv {v : Value} {z : DataW Unit × List MemPlace} (h : RA11 v = some z) : ∃ s b, v = .agg #[.string s, .bool b] ∧ z = (ea11 (s.data.toList, b), []) := by
 unfold RA11 at h
 split at h
 ·
  rename_i c
  unfold rdA11 at h
  split at h
  ·
   rename_i s b hc
   injection h with h
   refine ⟨s, b, ?_, h.symm⟩
   have : c = [Value.string s, Value.bool b].toArray := by rw [← hc]
   rw [this]
  ·
   cases h
 ·
  cases h
theorem ra11_at (s : ByteArray) (b : Bool) : RA11 (.agg #[.string s, .bool b]) = some (ea11 (s.data.toList, b), []) := rfl
def Acc11At (w : World) (P : Nat) (A : Acc11) : Prop := w.ownsMap Tryz.prog 9 RA11 P A.length (datV ea11 A)
theorem Acc11At.of {w : World} {P n : Nat} {A : Acc11} (h : w.ownsMap Tryz.prog 9 RA11 P n (datV ea11 A)) : Acc11At w P A := by
 have := ownsMap_tight10 h
 rwa [datV_size] at this
theorem Acc11At.kept {w w' : World} {P : Nat} {A : Acc11} (h : Acc11At w P A) (hb : w'.heap[P]? = w.heap[P]?) : Acc11At w' P A := by
 obtain ⟨es, clock, h1, r⟩ := h
 exact ⟨es, clock, hb.trans h1, r⟩
theorem Acc11At.lt {w : World} {P : Nat} {A : Acc11} (h : Acc11At w P A) : P < w.heap.size := World.ownsMap.lt h
theorem zeroa11 (w : World) : (zeroValue 97).run Tryz.prog w = .ok (.agg #[.string ⟨#[]⟩, .bool false]) w := by kernel_rfl
theorem at_acc11 (A : Acc11) (k : List UInt8) : (datV ea11 A).atKey (.string k) (ea11 ([], false)) = ea11 (hasA A k, disA A k) := by
 unfold hasA disA
 cases h : getV A k with
 | none => rw [atV_none _ h]
 | some v => rw [atV_some _ h]
theorem accs11_made (w : World) : Acc11At (w.alloc (.map #[] 0)) w.heap.size [] :=
 Acc11At.of (n := 0) (World.ownsMap_made (H := Unit) w Tryz.prog 9 RA11)
def av11 (A : Acc11) (k : List UInt8) : Value := .agg #[.string (tx10 (hasA A k)), .bool (disA A k)]
section
variable {w : World} {P : Nat} {A : Acc11}
theorem acc11_v {s : ByteArray} {v : Value} {ps : List MemPlace} (hv : RA11 v = some ((datV ea11 A).atKey (.string s.data.toList) (ea11 ([], false)), ps)) : v = av11 A s.data.toList := by
 obtain ⟨c, b, rfl, hc⟩ := ra11_inv hv
 rw [at_acc11] at hc
 injection hc with hc _
 unfold ea11 at hc
 injection hc with hc
 injection hc with h1 h2
 injection h1 with h1
 injection h1 with h1
 injection h2 with h2 _
 injection h2 with h2
 injection h2 with h2
 have h1' : hasA A s.data.toList = c.data.toList := h1
 have h2' : disA A s.data.toList = b := h2
 unfold av11
 rw [h1', h2', tx10_back]
theorem lookA11 (h : Acc11At w P A) (s : ByteArray) (hs : s.size ≤ maxLen) :
  (Instr.lookup 64 (.map (some P)) (.string s) true).run Tryz.prog w = .ok (.tuple #[av11 A s.data.toList, .bool (hasV A s.data.toList)]) w := by
 obtain ⟨v, ps, hrun, hv⟩ := World.ownsMap.look_ok h keyed10 Tryz.underlying64 (zeroa11 w) (ra11_at ⟨#[]⟩ false) (key10 s hs)
 rw [hrun, datV_has, acc11_v hv]
theorem lookA111 (h : Acc11At w P A) (s : ByteArray) (hs : s.size ≤ maxLen) :
  (Instr.lookup 64 (.map (some P)) (.string s) false).run Tryz.prog w = .ok (av11 A s.data.toList) w := by
 obtain ⟨v, ps, hrun, hv⟩ := World.ownsMap.lookup h keyed10 Tryz.underlying64 (zeroa11 w) (ra11_at ⟨#[]⟩ false) (key10 s hs)
 rw [hrun, acc11_v hv]
theorem lenA11 (h : Acc11At w P A) (ty : TypeId) : (Builtin.len_ #[64] ty #[.map (some P)]).run Tryz.prog w = .ok (.int .i64 A.length) w := by
 have := World.ownsMap.len h (t := 64) Tryz.underlying64 ty
 rwa [datV_size] at this
theorem storeA11 (h : Acc11At w P A) (hf : A.length ≤ 1000) (s v : ByteArray) (b : Bool) (hs : s.size ≤ maxLen) :
  ∃ w', (Instr.mapUpdate 64 (.map (some P)) (.string s) (.agg #[.string v, .bool b])).run Tryz.prog w = .ok () w' ∧ Acc11At w' P (putV A s.data.toList (v.data.toList, b)) ∧ w.mapTurned w' P := by
 obtain ⟨w', hrun, hown, ht⟩ := World.ownsMap.store h keyed10 Tryz.underlying64 (Nat.lt_of_le_of_lt hf (by decide)) (key10 s hs) (ra11_at v b)
 rw [datV_put] at hown
 exact ⟨w', hrun, Acc11At.of hown, ht⟩
theorem dropA11 (h : Acc11At w P A) (s : ByteArray) (hs : s.size ≤ maxLen) (ty : TypeId) :
  ∃ w', (Builtin.delete_ #[64, 9] ty #[.map (some P), .string s]).run Tryz.prog w = .ok (.tuple #[]) w' ∧ Acc11At w' P (delV A s.data.toList) ∧ w.mapTurned w' P := by
 obtain ⟨w', hrun, hown, ht⟩ := World.ownsMap.drop h keyed10 Tryz.underlying64 (key10 s hs) ty
 rw [datV_del] at hown
 exact ⟨w', hrun, Acc11At.of hown, ht⟩
end

/-! ### the directory -/
def fpM11 (M : Nat) (p q : Option Nat) (i : Nat) : Prop := i = M ∨ p = some i ∨ q = some i
def fpG11 (G : Nat) (pg : Option Nat) (T : Rows10) (i : Nat) : Prop := i = G ∨ pg = some i ∨ ∃ x ∈ T, x.2.1 = i
structure Nwr11 (w : World) (D P : Nat) (A : Acc11) (M : Nat) (p q : Option Nat) (L LM : Row7) (G : Nat) (pg : Option Nat) (T : Rows10) : Prop where
 blk : w.heap[D]? = some (.cells #[.map (some P), .pointer (some ⟨M, 0, none⟩), .pointer (some ⟨G, 0, none⟩)] 70 (0, 0))
 acc : Acc11At w P A
 idx : Idx9 w M p q L LM
 grp : Grp10 w G pg T
 sep1 : ∀ i, fpM11 M p q i → i ≠ P
 sep2 : ∀ i, fpG11 G pg T i → i ≠ P
 sep3 : ∀ i, fpM11 M p q i → fpG11 G pg T i → False

def Keeps11 (W w' : World) : Prop := ∀ (k : Nat) (c : Array Value) (T : TypeId) (fr : Nat × Nat), W.heap[k]? = some (.cells c T fr) → T ≠ 70 → T ≠ 101 → T ≠ 104 → w'.heap[k]? = some (.cells c T fr)
theorem Keeps11.of_below {W w' : World} (hb : Below W.heap.size W w') : Keeps11 W w' := fun k _ _ _ h _ _ _ => (hb.block k (Array.getElem?_eq_some_iff.1 h).1).trans h
theorem Keeps11.trans {a b c : World} (h : Keeps11 a b) (k : Keeps11 b c) : Keeps11 a c := fun i x T fr hi h1 h2 h3 => k i x T fr (h i x T fr hi h1 h2 h3) h1 h2 h3
theorem Keeps11.refl (w : World) : Keeps11 w w := fun _ _ _ _ h _ _ _ => h

section
variable {w w' : World} {D P M G : Nat} {A A' : Acc11} {p q pg : Option Nat} {L LM L' : Row7} {T : Rows10}
theorem Nwr11.lt (h : Nwr11 w D P A M p q L LM G pg T) : D < w.heap.size := (Array.getElem?_eq_some_iff.1 h.blk).1
theorem cells_ne11 {b c : Nat} {x y : Array Value} {X Y : TypeId} {f g : Nat × Nat} (hb : w.heap[b]? = some (.cells x X f)) (hc : w.heap[c]? = some (.cells y Y g)) (hne : X ≠ Y) : b ≠ c := fun e => by
 subst e; rw [hb] at hc; injection hc with hc; injection hc with _ h; exact hne h
theorem acc_ne11 {c : Array Value} {X : TypeId} {fr : Nat × Nat} {B : Nat} (h : Acc11At w P A) (hB : w.heap[B]? = some (.cells c X fr)) : P ≠ B := map_ne_cells10 h hB
theorem fpM_cells (h : Idx9 w M p q L LM) {B : Nat} {c : Array Value} {X : TypeId} {fr : Nat × Nat} (hB : w.heap[B]? = some (.cells c X fr)) (hX : X ≠ 101) : ¬ fpM11 M p q B := by
 rintro (e | e | e)
 ·
  exact cells_ne11 hB h.blk hX e
 ·
  exact map_ne_cells (h.mapp.map B e) hB rfl
 ·
  exact map_ne_cells (h.mapq.map B e) hB rfl
theorem fpG_cells (h : Grp10 w G pg T) {B : Nat} {c : Array Value} {X : TypeId} {fr : Nat × Nat} (hB : w.heap[B]? = some (.cells c X fr)) (hX : X ≠ 104) : ¬ fpG11 G pg T B := by
 rintro (e | e | ⟨x, hx, e⟩)
 ·
  exact cells_ne11 hB h.blk hX e
 ·
  exact map_ne_cells10 (h.map B e) hB rfl
 ·
  subst e; exact map_ne_cells10 (h.sets x hx) hB rfl
theorem fpM_lt (h : Idx9 w M p q L LM) {i : Nat} (hi : fpM11 M p q i) : i < w.heap.size := by
 rcases hi with rfl | e | e
 ·
  exact h.lt
 ·
  exact h.plt i e
 ·
  exact h.qlt i e
theorem fpG_lt (h : Grp10 w G pg T) {i : Nat} (hi : fpG11 G pg T i) : i < w.heap.size := by
 rcases hi with rfl | e | ⟨x, hx, rfl⟩
 ·
  exact h.lt
 ·
  exact h.mlt i e
 ·
  exact h.slt x hx
theorem Idx9.turnsF {F : Nat → Prop} (h : Idx9 w M p q L LM) (ht : Turns F w w') (hn : ∀ i, fpM11 M p q i → ¬ F i) : Idx9 w' M p q L LM :=
 h.turns ht (hn M (.inl rfl)) (fun b e => hn b (.inr (.inl e))) (fun b e => hn b (.inr (.inr e)))
theorem Grp10.turnsF {F : Nat → Prop} (h : Grp10 w G pg T) (ht : Turns F w w') (hn : ∀ i, fpG11 G pg T i → ¬ F i) : Grp10 w' G pg T :=
 h.turns ht (hn G (.inl rfl)) (fun b e => hn b (.inr (.inl e))) (fun x hx => hn _ (.inr (.inr ⟨x, hx, rfl⟩)))
theorem Nwr11.later (h : Nwr11 w D P A M p q L LM G pg T) (hb : Below w.heap.size w w') : Nwr11 w' D P A M p q L LM G pg T :=
 ⟨(hb.block D h.lt).trans h.blk, h.acc.kept (hb.block P h.acc.lt), h.idx.later hb, h.grp.later hb, h.sep1, h.sep2, h.sep3⟩
theorem Nwr11.accs (h : Nwr11 w D P A M p q L LM G pg T) (ha : Acc11At w' P A') (ht : Turns (fun i => i = P) w w') : Nwr11 w' D P A' M p q L LM G pg T :=
 ⟨(ht.block D h.lt (fun e => acc_ne11 h.acc h.blk e.symm)).trans h.blk, ha, h.idx.turnsF ht h.sep1, h.grp.turnsF ht h.sep2, h.sep1, h.sep2, h.sep3⟩
theorem keeps_accs (h : Nwr11 w D P A M p q L LM G pg T) (ht : Turns (fun i => i = P) w w') : Keeps11 w w' := fun k _ _ _ hk _ _ _ =>
 (ht.block k (Array.getElem?_eq_some_iff.1 hk).1 (fun e => acc_ne11 h.acc hk e.symm)).trans hk
theorem Nwr11.mails (h : Nwr11 w D P A M p q L LM G pg T) (hg : Goes9 w M p q L' w') : ∃ p' q' LM', Nwr11 w' D P A M p' q' L' LM' G pg T ∧ ∀ i, fpM11 M p' q' i → fpM11 M p q i ∨ w.heap.size ≤ i := by
 obtain ⟨p', q', M', hi, hp, hq, ht⟩ := hg
 have hf : ∀ i, fpM11 M p' q' i → fpM11 M p q i ∨ w.heap.size ≤ i := by
  rintro i (rfl | e | e)
  ·
   exact .inl (.inl rfl)
  ·
   exact (hp i e).imp (fun h => .inr (.inl h)) id
  ·
   exact (hq i e).imp (fun h => .inr (.inr h)) id
 have ht' : Turns (fpM11 M p q) w w' := ht
 refine ⟨p', q', M', ⟨(ht'.block D h.lt (fpM_cells h.idx h.blk (by decide))).trans h.blk, h.acc.kept (ht'.block P h.acc.lt (fun f => h.sep1 P f rfl)), hi, h.grp.turnsF ht' (fun i g f => h.sep3 i f g), fun i f => ?_, h.sep2, fun i f g => ?_⟩, hf⟩
 ·
  rcases hf i f with f | f
  ·
   exact h.sep1 i f
  ·
   have := h.acc.lt; omega
 ·
  rcases hf i f with f | f
  ·
   exact h.sep3 i f g
  ·
   have := fpG_lt h.grp g; omega
theorem keeps_mails (h : Nwr11 w D P A M p q L LM G pg T) (hg : Goes9 w M p q L' w') : Keeps11 w w' := by
 obtain ⟨_, _, _, _, _, _, ht⟩ := hg
 exact fun k c X fr hk _ h2 _ => (Turns.block ht k (Array.getElem?_eq_some_iff.1 hk).1 (fpM_cells h.idx hk h2)).trans hk
theorem Nwr11.grps (h : Nwr11 w D P A M p q L LM G pg T) {S' : Grs10} (hg : Goes10 w G pg T S' w') : ∃ pg' T', Nwr11 w' D P A M p q L LM G pg' T' ∧ plain10 T' = S' ∧ ∀ i, fpG11 G pg' T' i → fpG11 G pg T i ∨ w.heap.size ≤ i := by
 obtain ⟨p', T', hi, hS, hp, hx, ht⟩ := hg
 have hf : ∀ i, fpG11 G p' T' i → fpG11 G pg T i ∨ w.heap.size ≤ i := by
  rintro i (rfl | e | ⟨x, hxx, rfl⟩)
  ·
   exact .inl (.inl rfl)
  ·
   exact (hp i e).imp (fun h => .inr (.inl h)) id
  ·
   rcases hx x hxx with ⟨y, hy, e⟩ | h
   ·
    exact .inl (.inr (.inr ⟨y, hy, e⟩))
   ·
    exact .inr h
 have ht' : Turns (fpG11 G pg T) w w' := ht
 refine ⟨p', T', ⟨(ht'.block D h.lt (fpG_cells h.grp h.blk (by decide))).trans h.blk, h.acc.kept (ht'.block P h.acc.lt (fun f => h.sep2 P f rfl)), h.idx.turnsF ht' (fun i f g => h.sep3 i f g), hi, h.sep1, fun i f => ?_, fun i f g => ?_⟩, hS, hf⟩
 ·
  rcases hf i f with f | f
  ·
   exact h.sep2 i f
  ·
   have := h.acc.lt; omega
 ·
  rcases hf i g with g | g
  ·
   exact h.sep3 i f g
  ·
   have := fpM_lt h.idx f; omega
theorem keeps_grps (h : Nwr11 w D P A M p q L LM G pg T) {S' : Grs10} (hg : Goes10 w G pg T S' w') : Keeps11 w w' := by
 obtain ⟨_, _, _, _, _, _, ht⟩ := hg
 exact fun k c X fr hk _ _ h3 => (Turns.block ht k (Array.getElem?_eq_some_iff.1 hk).1 (fpG_cells h.grp hk h3)).trans hk
end

def Own11 (w0 W : World) (D P M G : Nat) (A : Acc11) (L : Row7) (S : Grs10) : Prop :=
 ∃ p q LM pg T, Nwr11 W D P A M p q L LM G pg T ∧ plain10 T = S ∧ (∀ i, i = D ∨ i = P ∨ fpM11 M p q i ∨ fpG11 G pg T i → w0.heap.size ≤ i) ∧ Below w0.heap.size w0 W
def Goes11 (w0 W : World) (D P M G : Nat) (A : Acc11) (L : Row7) (S : Grs10) (w' : World) : Prop := Own11 w0 w' D P M G A L S ∧ Keeps11 W w'
section
variable {w0 W W' : World} {D P M G : Nat} {A A' : Acc11} {L L' : Row7} {S S' : Grs10}
theorem Own11.below (h : Own11 w0 W D P M G A L S) : Below w0.heap.size w0 W := by obtain ⟨_, _, _, _, _, _, _, _, h⟩ := h; exact h
theorem Own11.later (h : Own11 w0 W D P M G A L S) (hb : Below W.heap.size W W') : Own11 w0 W' D P M G A L S := by
 obtain ⟨p, q, LM, pg, T, hd, hS, h2, h3⟩ := h
 exact ⟨p, q, LM, pg, T, hd.later hb, hS, h2, below_next h3 hb⟩
theorem Own11.still (h : Own11 w0 W D P M G A L S) (hb : Below W.heap.size W W') : Goes11 w0 W D P M G A L S W' := ⟨h.later hb, Keeps11.of_below hb⟩
theorem Goes11.ahead {W1 : World} (hb : Below W.heap.size W W1) (h : Goes11 w0 W1 D P M G A L S W') : Goes11 w0 W D P M G A L S W' := ⟨h.1, (Keeps11.of_below hb).trans h.2⟩
theorem Goes11.next {W1 : World} {A1 : Acc11} {L1 : Row7} {S1 : Grs10} (h1 : Goes11 w0 W D P M G A1 L1 S1 W1) (h : Goes11 w0 W1 D P M G A L S W') : Goes11 w0 W D P M G A L S W' := ⟨h.1, h1.2.trans h.2⟩
theorem Own11.c0 (h : Own11 w0 W D P M G A L S) : W.cell? ⟨D, 0, none⟩ = some (.map (some P)) := by
 obtain ⟨p, q, LM, pg, T, hd, _⟩ := h
 simp [World.cell?, hd.blk]
theorem Own11.c1 (h : Own11 w0 W D P M G A L S) : W.cell? ⟨D, 1, none⟩ = some (.pointer (some ⟨M, 0, none⟩)) := by
 obtain ⟨p, q, LM, pg, T, hd, _⟩ := h
 simp [World.cell?, hd.blk]
theorem Own11.c2 (h : Own11 w0 W D P M G A L S) : W.cell? ⟨D, 2, none⟩ = some (.pointer (some ⟨G, 0, none⟩)) := by
 obtain ⟨p, q, LM, pg, T, hd, _⟩ := h
 simp [World.cell?, hd.blk]
theorem Own11.look (h : Own11 w0 W D P M G A L S) (s : ByteArray) (hs : s.size ≤ 9223372036854775807) :
  (Instr.lookup 64 (.map (some P)) (.string s) true).run Tryz.prog W = .ok (.tuple #[av11 A s.data.toList, .bool (hasV A s.data.toList)]) W := by
 obtain ⟨p, q, LM, pg, T, hd, _⟩ := h
 exact lookA11 hd.acc s (Nat.le_trans hs (by decide))
theorem Own11.look1 (h : Own11 w0 W D P M G A L S) (s : ByteArray) (hs : s.size ≤ 9223372036854775807) :
  (Instr.lookup 64 (.map (some P)) (.string s) false).run Tryz.prog W = .ok (av11 A s.data.toList) W := by
 obtain ⟨p, q, LM, pg, T, hd, _⟩ := h
 exact lookA111 hd.acc s (Nat.le_trans hs (by decide))
theorem Own11.lenA (h : Own11 w0 W D P M G A L S) (ty : TypeId) : (Builtin.len_ #[64] ty #[.map (some P)]).run Tryz.prog W = .ok (.int .i64 A.length) W := by
 obtain ⟨p, q, LM, pg, T, hd, _⟩ := h
 exact lenA11 hd.acc ty
theorem Own11.accs (h : Own11 w0 W D P M G A L S) (ha : Acc11At W' P A') (ht : W.mapTurned W' P) : Goes11 w0 W D P M G A' L S W' := by
 obtain ⟨p, q, LM, pg, T, hd, hS, h2, h3⟩ := h
 have ht' : Turns (fun i => i = P) W W' := (Turns.refl _ W).grown ht.grown (fun k hk _ => by cases hk; rfl)
 exact ⟨⟨p, q, LM, pg, T, hd.accs ha ht', hS, h2, h3.trans (Turns.below_at ht' h3.size (fun i e => h2 i (.inr (.inl e))))⟩, keeps_accs hd ht'⟩
theorem Own11.store (h : Own11 w0 W D P M G A L S) (hf : A.length ≤ 1000) (s v : ByteArray) (b : Bool) (hs : s.size ≤ 9223372036854775807) :
  ∃ w', (Instr.mapUpdate 64 (.map (some P)) (.string s) (.agg #[.string v, .bool b])).run Tryz.prog W = .ok () w' ∧ Goes11 w0 W D P M G (putV A s.data.toList (v.data.toList, b)) L S w' := by
 have h' := h
 obtain ⟨p, q, LM, pg, T, hd, _⟩ := h'
 obtain ⟨w', hrun, ha, ht⟩ := storeA11 hd.acc hf s v b (Nat.le_trans hs (by decide))
 exact ⟨w', hrun, h.accs ha ht⟩
theorem Own11.drop (h : Own11 w0 W D P M G A L S) (s : ByteArray) (hs : s.size ≤ 9223372036854775807) (ty : TypeId) :
  ∃ w', (Builtin.delete_ #[64, 9] ty #[.map (some P), .string s]).run Tryz.prog W = .ok (.tuple #[]) w' ∧ Goes11 w0 W D P M G (delV A s.data.toList) L S w' := by
 have h' := h
 obtain ⟨p, q, LM, pg, T, hd, _⟩ := h'
 obtain ⟨w', hrun, ha, ht⟩ := dropA11 hd.acc s (Nat.le_trans hs (by decide)) ty
 exact ⟨w', hrun, h.accs ha ht⟩
/-! ### of the addresses -/
theorem Own11.mset (h : Own11 w0 W D P M G A L S) (n m : ByteArray) (hn : n.size ≤ 9223372036854775807) (hm : m.size ≤ 9223372036854775807) (hl : L.length < 100) (h5 : Len5 W) :
  Calls Tryz.prog 131 #[.pointer (some ⟨M, 0, none⟩), .string n, .string m] W fun e w' => e = .returned (.int .i64 (seE9 L n.data.toList m.data.toList)) ∧ Goes11 w0 W D P M G A (seL9 L n.data.toList m.data.toList) S w' := by
 obtain ⟨p, q, LM, pg, T, hd, hS, h2, h3⟩ := h
 refine (set9_calls M p q L LM n m W hd.idx hn hm hl h5).mono fun e w' ⟨he, hg⟩ => ⟨he, ?_, keeps_mails hd hg⟩
 obtain ⟨p', q', LM', hd', hf⟩ := hd.mails hg
 obtain ⟨_, _, _, _, _, _, ht⟩ := hg
 refine ⟨p', q', LM', pg, T, hd', hS, fun i hi => ?_, h3.trans (Turns.below_at ht h3.size (fun i e => h2 i (.inr (.inr (.inl e)))))⟩
 rcases hi with e | e | e | e
 ·
  exact h2 i (.inl e)
 ·
  exact h2 i (.inr (.inl e))
 ·
  rcases hf i e with e | e
  ·
   exact h2 i (.inr (.inr (.inl e)))
  ·
   exact Nat.le_trans h3.size e
 ·
  exact h2 i (.inr (.inr (.inr e)))
theorem Own11.goesM (h : Own11 w0 W D P M G A L S) {p q : Option Nat} {LM : Row7} {pg : Option Nat} {T : Rows10} (hd : Nwr11 W D P A M p q L LM G pg T) (hS : plain10 T = S) (h2 : ∀ i, i = D ∨ i = P ∨ fpM11 M p q i ∨ fpG11 G pg T i → w0.heap.size ≤ i) (hg : Goes9 W M p q L' W') : Goes11 w0 W D P M G A L' S W' := by
 have h3 := h.below
 refine ⟨?_, keeps_mails hd hg⟩
 obtain ⟨p', q', LM', hd', hf⟩ := hd.mails hg
 obtain ⟨_, _, _, _, _, _, ht⟩ := hg
 refine ⟨p', q', LM', pg, T, hd', hS, fun i hi => ?_, h3.trans (Turns.below_at ht h3.size (fun i e => h2 i (.inr (.inr (.inl e)))))⟩
 rcases hi with e | e | e | e
 ·
  exact h2 i (.inl e)
 ·
  exact h2 i (.inr (.inl e))
 ·
  rcases hf i e with e | e
  ·
   exact h2 i (.inr (.inr (.inl e)))
  ·
   exact Nat.le_trans h3.size e
 ·
  exact h2 i (.inr (.inr (.inr e)))
theorem Own11.mrename (h : Own11 w0 W D P M G A L S) (o n : ByteArray) (ho : o.size ≤ 9223372036854775807) (hn : n.size ≤ 9223372036854775807) :
  Calls Tryz.prog 84 #[.pointer (some ⟨M, 0, none⟩), .string o, .string n] W fun e w' => e = .returned (.int .i64 (reE9 L o.data.toList n.data.toList)) ∧ Goes11 w0 W D P M G A (reL9 L o.data.toList n.data.toList) S w' := by
 have h' := h
 obtain ⟨p, q, LM, pg, T, hd, hS, h2, h3⟩ := h'
 exact (rename9_calls M p q L LM o n W hd.idx ho hn).mono fun e w' ⟨he, hg⟩ => ⟨he, h.goesM hd hS h2 hg⟩
theorem Own11.mdrop (h : Own11 w0 W D P M G A L S) (n : ByteArray) (hn : n.size ≤ 9223372036854775807) :
  Calls Tryz.prog 77 #[.pointer (some ⟨M, 0, none⟩), .string n] W fun e w' => e = .returned (.bool (hasE L n.data.toList)) ∧ Goes11 w0 W D P M G A (delE L n.data.toList) S w' := by
 have h' := h
 obtain ⟨p, q, LM, pg, T, hd, hS, h2, h3⟩ := h'
 refine (drop9_calls M p q L LM n W hd.idx (Nat.le_trans hn (by decide))).mono fun e w' ⟨he, ⟨M', hi⟩, ht⟩ => ⟨he, h.goesM hd hS h2 ?_⟩
 exact ⟨p, q, M', hi, fun _ e => .inl e, fun _ e => .inl e, ht⟩
theorem Own11.mof (h : Own11 w0 W D P M G A L S) (n : ByteArray) (hn : n.size ≤ 9223372036854775807) :
  Calls Tryz.prog 110 #[.pointer (some ⟨M, 0, none⟩), .string n] W fun e w' => e = .returned (.tuple #[.string (tx7 (getE L n.data.toList)), .bool (hasE L n.data.toList)]) ∧ w' = W := by
 obtain ⟨p, q, LM, pg, T, hd, _⟩ := h
 exact of9_calls M p q L LM n W hd.idx (Nat.le_trans hn (by decide))
theorem Own11.mfind (h : Own11 w0 W D P M G A L S) (n : ByteArray) (hn : n.size ≤ 9223372036854775807) (h5 : Len5 W) :
  Calls Tryz.prog 56 #[.pointer (some ⟨M, 0, none⟩), .string n] W fun e w' => e = .returned (.tuple #[.string (tx7 (fiS9 L n.data.toList)), .int .i64 (fiE9 L n.data.toList)]) ∧ Below W.heap.size W w' := by
 obtain ⟨p, q, LM, pg, T, hd, _⟩ := h
 exact find9_calls M p q L LM n W hd.idx hn h5
/-! ### of the groups -/
theorem Own11.goesG (h : Own11 w0 W D P M G A L S) {p q : Option Nat} {LM : Row7} {pg : Option Nat} {T : Rows10} (hd : Nwr11 W D P A M p q L LM G pg T) (h2 : ∀ i, i = D ∨ i = P ∨ fpM11 M p q i ∨ fpG11 G pg T i → w0.heap.size ≤ i) (hg : Goes10 W G pg T S' W') : Goes11 w0 W D P M G A L S' W' := by
 have h3 := h.below
 refine ⟨?_, keeps_grps hd hg⟩
 obtain ⟨pg', T', hd', hS, hf⟩ := hd.grps hg
 obtain ⟨_, _, _, _, _, _, ht⟩ := hg
 refine ⟨p, q, LM, pg', T', hd', hS, fun i hi => ?_, h3.trans (Turns.below_at ht h3.size (fun i e => h2 i (.inr (.inr (.inr e)))))⟩
 rcases hi with e | e | e | e
 ·
  exact h2 i (.inl e)
 ·
  exact h2 i (.inr (.inl e))
 ·
  exact h2 i (.inr (.inr (.inl e)))
 ·
  rcases hf i e with e | e
  ·
   exact h2 i (.inr (.inr (.inr e)))
  ·
   exact Nat.le_trans h3.size e
theorem few11 {T : Rows10} {k : Nat} (hg : Good10 (plain10 T) k) : T.length ≤ 6 := by have := hg.few; rwa [plain10_len] at this
theorem little11 {T : Rows10} {k : Nat} (hg : Good10 (plain10 T) k) (hk : k ≤ 900) : ∀ x ∈ T, x.2.2.length ≤ 1000 := fun x hx => by
 have := hg.little (x.1, x.2.2) (List.mem_map.2 ⟨x, hx, rfl⟩)
 exact Nat.le_trans this (by omega)
theorem named11 {T : Rows10} {k : Nat} (hg : Good10 (plain10 T) k) : ∀ x ∈ T, x.1.length ≤ 1000 := fun x hx => by
 have := name10_len (hg.named (x.1, x.2.2) (List.mem_map.2 ⟨x, hx, rfl⟩))
 exact Nat.le_trans this (by omega)
variable {k : Nat}
theorem Own11.gmake (h : Own11 w0 W D P M G A L S) (hk : Good10 S k) (g : ByteArray) (hg : g.size ≤ 9223372036854775807) :
  Calls Tryz.prog 74 #[.pointer (some ⟨G, 0, none⟩), .string g] W fun e w' => e = .returned (.int .i64 (maE10 S g.data.toList)) ∧ Goes11 w0 W D P M G A L (maS10 S g.data.toList) w' := by
 have h' := h
 obtain ⟨p, q, LM, pg, T, hd, rfl, h2, h3⟩ := h'
 exact (make10_calls G pg T g W hd.grp (few11 hk) hg).mono fun e w' ⟨he, hgo⟩ => ⟨he, h.goesG hd h2 hgo⟩
theorem Own11.gdrop (h : Own11 w0 W D P M G A L S) (g : ByteArray) (hg : g.size ≤ 9223372036854775807) :
  Calls Tryz.prog 98 #[.pointer (some ⟨G, 0, none⟩), .string g] W fun e w' => e = .returned (.int .i64 (drE10 S g.data.toList)) ∧ Goes11 w0 W D P M G A L (drS10 S g.data.toList) w' := by
 have h' := h
 obtain ⟨p, q, LM, pg, T, hd, rfl, h2, h3⟩ := h'
 exact (drop10_calls G pg T g W hd.grp hg).mono fun e w' ⟨he, hgo⟩ => ⟨he, h.goesG hd h2 hgo⟩
theorem Own11.gjoin (h : Own11 w0 W D P M G A L S) (hk : Good10 S k) (h9 : k ≤ 900) (g n : ByteArray) (hg : g.size ≤ 9223372036854775807) (hn : n.size ≤ 9223372036854775807) :
  Calls Tryz.prog 101 #[.pointer (some ⟨G, 0, none⟩), .string g, .string n] W fun e w' => e = .returned (.int .i64 (joE10 S g.data.toList n.data.toList)) ∧ Goes11 w0 W D P M G A L (joS10 S g.data.toList n.data.toList) w' := by
 have h' := h
 obtain ⟨p, q, LM, pg, T, hd, rfl, h2, h3⟩ := h'
 exact (join10_calls G pg T g n W hd.grp (little11 hk h9) hg hn).mono fun e w' ⟨he, hgo⟩ => ⟨he, h.goesG hd h2 hgo⟩
theorem Own11.gleave (h : Own11 w0 W D P M G A L S) (g n : ByteArray) (hg : g.size ≤ 9223372036854775807) (hn : n.size ≤ 9223372036854775807) :
  Calls Tryz.prog 102 #[.pointer (some ⟨G, 0, none⟩), .string g, .string n] W fun e w' => e = .returned (.int .i64 (leE10 S g.data.toList n.data.toList)) ∧ Goes11 w0 W D P M G A L (leS10 S g.data.toList n.data.toList) w' := by
 have h' := h
 obtain ⟨p, q, LM, pg, T, hd, rfl, h2, h3⟩ := h'
 exact (leave10_calls G pg T g n W hd.grp hg hn).mono fun e w' ⟨he, hgo⟩ => ⟨he, h.goesG hd h2 hgo⟩
theorem Own11.grename (h : Own11 w0 W D P M G A L S) (hk : Good10 S k) (h9 : k ≤ 900) (o n : ByteArray) (ho : o.size ≤ 9223372036854775807) (hn : n.size ≤ 9223372036854775807) :
  Calls Tryz.prog 86 #[.pointer (some ⟨G, 0, none⟩), .string o, .string n] W fun e w' => e = .returned (.int .i64 (reE10 S o.data.toList n.data.toList)) ∧ Goes11 w0 W D P M G A L (reS10 S o.data.toList n.data.toList) w' := by
 have h' := h
 obtain ⟨p, q, LM, pg, T, hd, rfl, h2, h3⟩ := h'
 have hf := few11 hk
 exact (rename10_calls G pg T o n W hd.grp (by omega) (named11 hk) (little11 hk h9) ho hn).mono fun e w' ⟨he, hgo⟩ => ⟨he, h.goesG hd h2 hgo⟩
theorem Own11.gremove (h : Own11 w0 W D P M G A L S) (hk : Good10 S k) (n : ByteArray) (hn : n.size ≤ 9223372036854775807) :
  Calls Tryz.prog 78 #[.pointer (some ⟨G, 0, none⟩), .string n] W fun e w' => e = .returned (.int .i64 ((of10 S n.data.toList).length : Nat)) ∧ Goes11 w0 W D P M G A L (rmS10 S n.data.toList) w' := by
 have h' := h
 obtain ⟨p, q, LM, pg, T, hd, rfl, h2, h3⟩ := h'
 have hf := few11 hk
 exact (remove10_calls G pg T n W hd.grp (by omega) (named11 hk) hn).mono fun e w' ⟨he, hgo⟩ => ⟨he, h.goesG hd h2 hgo⟩
theorem Own11.gof (h : Own11 w0 W D P M G A L S) (hk : Good10 S k) (n : ByteArray) (hn : n.size ≤ 9223372036854775807) :
  Calls Tryz.prog 111 #[.pointer (some ⟨G, 0, none⟩), .string n] W (Names10 (of10 S n.data.toList) W) := by
 obtain ⟨p, q, LM, pg, T, hd, rfl, h2, h3⟩ := h
 have hf := few11 hk
 exact of10_calls G pg T n W hd.grp (by omega) hn
theorem Own11.gall (h : Own11 w0 W D P M G A L S) (hk : Good10 S k) : Calls Tryz.prog 106 #[.pointer (some ⟨G, 0, none⟩)] W (Names10 (names10 S) W) := by
 obtain ⟨p, q, LM, pg, T, hd, rfl, h2, h3⟩ := h
 have hf := few11 hk
 exact all10_calls G pg T W hd.grp (by omega)
end
end Go.Proofs.YthlgmkfofebbfaaGreatDoor


namespace Go.Proofs.YthlgmkfofebbfaaGreatDoor
open Go.RowKit


def le (x : Nat) : Nat → List UInt8
 | 0 => []
 | k + 1 => le x k ++ [UInt8.ofNat (x / 256 ^ k)]


end Go.Proofs.YthlgmkfofebbfaaGreatDoor


namespace Go.Proofs.YthlgmkfofebbfaaGreatDoor
open Go.RowKit


end Go.Proofs.YthlgmkfofebbfaaGreatDoor


namespace Go.Proofs.YthlgmkfofebbfaaGreatDoor
open Go.RowKit

def RdS (w : World) (A : Option Addr) (ss : List ByteArray) : Prop :=
 ss ≠ [] → ∃ b off, A = some ⟨b, off, none⟩ ∧ b < w.heap.size ∧ ∀ j (hj : j < ss.length), w.cell? ⟨b, off + j, none⟩ = some (.string ss[j])
theorem RdS.turns {S : Nat → Prop} {w w' : World} {A : Option Addr} {ss : List ByteArray} (h : RdS w A ss) (ht : Turns S w w') (hn : ss ≠ [] → ∀ a, A = some a → ¬ S a.block) : RdS w' A ss := by
 intro hne
 obtain ⟨b, off, rfl, hb, hc⟩ := h hne
 exact ⟨b, off, rfl, Nat.lt_of_lt_of_le hb ht.size, fun j hj => (ht.cell (p := ⟨b, off + j, none⟩) hb (hn hne ⟨b, off, none⟩ rfl)).trans (hc j hj)⟩


end Go.Proofs.YthlgmkfofebbfaaGreatDoor


namespace Go.Proofs.YthlgmkfofebbfaaGreatDoor
open Go.RowKit

def first6 : List Int → Int
 | [] => 0
 | e :: l => if e = 0 then first6 l else e

set_option maxRecDepth 100000 in
theorem first6_calls (B n cap : Nat) (es : List Int) (w : World) (hl : n = es.length) (hn : n ≤ 1000) (hc : ∀ j (h : j < es.length), w.cell? ⟨B, j, none⟩ = some (.int .i64 es[j])) :
  Calls Tryz.prog 153 #[.slice (some ⟨B, 0, none⟩) n cap] w fun e w' => e = .returned (.int .i64 (first6 es)) ∧ w' = w := by
 have HC := Lib.hid hc
 have HL := Lib.hid hl
 clear hc hl
 generalize hr : first6 es = r
 have HR := Lib.hid hr
 clear hr
 go_enter Tryz.func153, Tryz.ntmps153
 go_wp2
 go_loopg [4, 7] n (fun gg _ s7 wr => ∃ k : Nat, k ≤ n ∧ n - k ≤ gg ∧ s7 = .int .i64 k ∧ wr = w ∧ Hid (first6 (es.drop k) = r))
 case atStart => exact ⟨0, Nat.zero_le _, by omega, rfl, rfl, HR⟩
 case round =>
  obtain ⟨k, hk, hg, rfl, rfl, A⟩ := hrel
  by_cases hlt : k < n
  ·
   have hltz : (k : Int) < (n : Int) := by omega
   have hkl : k < es.length := HL.out ▸ hlt
   have hcell := HC.out k hkl
   have hA : (if es[k] = 0 then first6 (es.drop (k + 1)) else es[k]) = r := by
    have := A.out
    rw [List.drop_eq_getElem_cons hkl] at this
    exact this
   generalize es[k] = x at *
   by_cases h0 : x = 0
   ·
    rw [if_pos h0] at hA
    have HA := Lib.hid hA
    clear hA A
    subst h0
    go_wp2
    go_roundg (n - (k + 1))
    case measure => omega
    case rel => exact ⟨k + 1, by omega, by omega, by go_num, rfl, HA⟩
   ·
    rw [if_neg h0] at hA
    subst hA
    clear A
    go_wp2
    go_ret
    exact ⟨rfl, rfl⟩
  ·
   have hltz : ¬ (k : Int) < (n : Int) := by omega
   have hA : (0 : Int) = r := by
    have := A.out
    rw [List.drop_eq_nil_of_le (by have := HL.out; omega)] at this
    exact this
   subst hA
   clear A
   go_wp2
   go_ret
   exact ⟨rfl, rfl⟩





theorem RdS.at6 {w : World} {A : Option Addr} {ss : List ByteArray} (h : RdS w A ss) (k : Nat) (hk : k < ss.length) :
  ∃ (b off : Nat), A = some ⟨b, off, none⟩ ∧ w.cell? ⟨b, off + k, none⟩ = some (.string ss[k]) := by
 obtain ⟨b, off, rfl, _, hc⟩ := h (by intro e; subst e; simp at hk)
 exact ⟨b, off, rfl, hc k hk⟩
theorem RdS.below {w w' : World} {A : Option Addr} {ss : List ByteArray} (h : RdS w A ss) (hb : Below w.heap.size w w') : RdS w' A ss := h.turns (Turns.of_below hb (fun _ => False)) (fun _ _ _ f => f)


end Go.Proofs.YthlgmkfofebbfaaGreatDoor


namespace Go.Proofs.YthlgmkfofebbfaaGreatDoor
open Go.RowKit





theorem toList_ne6 {s t : ByteArray} (h : s ≠ t) : s.toList ≠ t.toList := by
 intro e
 apply h
 rw [ByteArray.toList_eq, ByteArray.toList_eq] at e
 exact ByteArray.ext (Array.toList_inj.1 e)


end Go.Proofs.YthlgmkfofebbfaaGreatDoor


namespace Go.Proofs.YthlgmkfofebbfaaGreatDoor
open Go.RowKit

structure Us where
 nm : ByteArray
 hs : ByteArray
 ml : ByteArray
 dis : Bool
 ga : Option Addr
 gs : List ByteArray
 gc : Nat
def Us.cells (u : Us) : Array Value := #[.string u.nm, .string u.hs, .string u.ml, .bool u.dis, .slice u.ga u.gs.length u.gc]
def Us.v (u : Us) : Value := .agg u.cells
structure Us.Ok (w : World) (u : Us) : Prop where
 rd : RdS w u.ga u.gs
 nm : u.nm.size ≤ 140737488355328
 hs : u.hs.size ≤ 140737488355328
 ml : u.ml.size ≤ 140737488355328
 nil : u.ga = none → u.gc = 0
 len : u.gs.length ≤ u.gc
 cap : u.gc ≤ 9223372036854775807
 all : ∀ s ∈ u.gs, s.size ≤ 9223372036854775807
theorem Us.Ok.below {w W : World} {u : Us} (h : u.Ok w) (hb : Below w.heap.size w W) : u.Ok W := ⟨h.rd.below hb, h.nm, h.hs, h.ml, h.nil, h.len, h.cap, h.all⟩

structure UsAt (w : World) (B : Nat) (u : Us) : Prop where
 lt : B < w.heap.size
 c0 : w.cell? ⟨B, 0, none⟩ = some (.string u.nm)
 c1 : w.cell? ⟨B, 1, none⟩ = some (.string u.hs)
 c2 : w.cell? ⟨B, 2, none⟩ = some (.string u.ml)
 c3 : w.cell? ⟨B, 3, none⟩ = some (.bool u.dis)
 c4 : w.cell? ⟨B, 4, none⟩ = some (.slice u.ga u.gs.length u.gc)
theorem UsAt.new (w : World) (u : Us) (t : TypeId) : UsAt (w.alloc (.cells #[.string u.nm, .string u.hs, .string u.ml, .bool u.dis, .slice u.ga u.gs.length u.gc] t)) w.heap.size u := by
 refine ⟨by simp, ?_, ?_, ?_, ?_, ?_⟩
 all_goals
  rw [World.cell?_alloc_at _ _ _ _ rfl]
  rfl
theorem UsAt.below_at {w W : World} {B : Nat} {u : Us} (h : UsAt w B u) {n : Nat} (hn : B < n) (hb : Below n w W) : UsAt W B u :=
 ⟨Nat.lt_of_lt_of_le h.lt hb.size, (hb.cell (p := ⟨B, 0, none⟩) hn).trans h.c0, (hb.cell (p := ⟨B, 1, none⟩) hn).trans h.c1, (hb.cell (p := ⟨B, 2, none⟩) hn).trans h.c2, (hb.cell (p := ⟨B, 3, none⟩) hn).trans h.c3, (hb.cell (p := ⟨B, 4, none⟩) hn).trans h.c4⟩
theorem UsAt.below {w W : World} {B : Nat} {u : Us} (h : UsAt w B u) (hb : Below w.heap.size w W) : UsAt W B u := h.below_at h.lt hb



def sameU (a b : Us) : Bool := decide (a.nm = b.nm) && decide (a.hs = b.hs) && decide (a.ml = b.ml) && decide (a.dis = b.dis) && decide (a.gs = b.gs)





end Go.Proofs.YthlgmkfofebbfaaGreatDoor


namespace Go.Proofs.YthlgmkfofebbfaaGreatDoor
open Go.RowKit

def Errs6 (W : World) (v : Value) (es : List Int) : Prop :=
 ∃ G, v = .slice (some ⟨G, 0, none⟩) es.length es.length ∧ G < W.heap.size ∧ ∀ j (h : j < es.length), W.cell? ⟨G, j, none⟩ = some (.int .i64 es[j])
theorem Errs6.below {W W' : World} {v : Value} {es : List Int} (h : Errs6 W v es) (hb : Below W.heap.size W W') : Errs6 W' v es := by
 obtain ⟨G, e, hl, hc⟩ := h
 exact ⟨G, e, Nat.lt_of_lt_of_le hl hb.size, fun j hj => (hb.cell (p := ⟨G, j, none⟩) hl).trans (hc j hj)⟩
theorem errs6_new (W : World) (es : List Int) (t : TypeId) : Errs6 (W.alloc (.cells (es.map (Value.int .i64)).toArray t)) (.slice (some ⟨W.heap.size, 0, none⟩) es.length es.length) es := by
 refine ⟨_, rfl, by simp, fun j hj => ?_⟩
 rw [World.cell?_alloc_at _ _ _ _ rfl]
 simp [hj]
theorem Errs6.first {W : World} {v : Value} {es : List Int} (h : Errs6 W v es) (hn : es.length ≤ 1000) : Calls Tryz.prog 153 #[v] W fun e w' => e = .returned (.int .i64 (first6 es)) ∧ w' = W := by
 obtain ⟨G, rfl, _, hc⟩ := h
 exact first6_calls G es.length es.length es W rfl hn hc





end Go.Proofs.YthlgmkfofebbfaaGreatDoor


namespace Go.Proofs.YthlgmkfofebbfaaGreatDoor
open Go.RowKit Go.Maps

set_option maxRecDepth 100000 in
theorem first11_calls (B n cap : Nat) (es : List Int) (w : World) (hl : n = es.length) (hn : n ≤ 1000) (hc : ∀ j (h : j < es.length), w.cell? ⟨B, j, none⟩ = some (.int .i64 es[j])) :
  Calls Tryz.prog 51 #[.slice (some ⟨B, 0, none⟩) n cap] w fun e w' => e = .returned (.int .i64 (first6 es)) ∧ w' = w := by
 have HC := Lib.hid hc
 have HL := Lib.hid hl
 clear hc hl
 generalize hr : first6 es = r
 have HR := Lib.hid hr
 clear hr
 go_enter Tryz.func51, Tryz.ntmps51
 go_wp2
 go_loopg [4, 7] n (fun gg _ s7 wr => ∃ k : Nat, k ≤ n ∧ n - k ≤ gg ∧ s7 = .int .i64 k ∧ wr = w ∧ Hid (first6 (es.drop k) = r))
 case atStart => exact ⟨0, Nat.zero_le _, by omega, rfl, rfl, HR⟩
 case round =>
  obtain ⟨k, hk, hg, rfl, rfl, A⟩ := hrel
  by_cases hlt : k < n
  ·
   have hltz : (k : Int) < (n : Int) := by omega
   have hkl : k < es.length := HL.out ▸ hlt
   have hcell := HC.out k hkl
   have hA : (if es[k] = 0 then first6 (es.drop (k + 1)) else es[k]) = r := by
    have := A.out
    rw [List.drop_eq_getElem_cons hkl] at this
    exact this
   generalize es[k] = x at *
   by_cases h0 : x = 0
   ·
    rw [if_pos h0] at hA
    have HA := Lib.hid hA
    clear hA A
    subst h0
    go_wp2
    go_roundg (n - (k + 1))
    case measure => omega
    case rel => exact ⟨k + 1, by omega, by omega, by go_num, rfl, HA⟩
   ·
    rw [if_neg h0] at hA
    subst hA
    clear A
    go_wp2
    go_ret
    exact ⟨rfl, rfl⟩
  ·
   have hltz : ¬ (k : Int) < (n : Int) := by omega
   have hA : (0 : Int) = r := by
    have := A.out
    rw [List.drop_eq_nil_of_le (by have := HL.out; omega)] at this
    exact this
   subst hA
   clear A
   go_wp2
   go_ret
   exact ⟨rfl, rfl⟩

set_option maxRecDepth 100000 in
theorem unless11_calls (b : Bool) (n : Int) (w : World) : Calls Tryz.prog 108 #[.bool b, .int .i64 n] w fun e w' => e = .returned (.int .i64 (err5 b n)) ∧ w' = w := by
 cases b with
 | true =>
  show Calls _ _ _ _ fun e w' => e = .returned (.int .i64 0) ∧ w' = w
  go_enter Tryz.func108, Tryz.ntmps108
  go_wp2
  go_ret
  exact ⟨rfl, rfl⟩
 | false =>
  show Calls _ _ _ _ fun e w' => e = .returned (.int .i64 n) ∧ w' = w
  go_enter Tryz.func108, Tryz.ntmps108
  go_wp2
  go_ret
  exact ⟨rfl, rfl⟩


theorem Errs6.first11 {W : World} {v : Value} {es : List Int} (h : Errs6 W v es) (hn : es.length ≤ 1000) : Calls Tryz.prog 51 #[v] W fun e w' => e = .returned (.int .i64 (first6 es)) ∧ w' = W := by
 obtain ⟨G, rfl, _, hc⟩ := h
 exact first11_calls G es.length es.length es W rfl hn hc
theorem firsts11 (W : World) (es : List Int) (t : TypeId) (hn : es.length ≤ 1000) : Calls Tryz.prog 51 #[.slice (some ⟨W.heap.size, 0, none⟩) es.length es.length] (W.alloc (.cells (es.map (Value.int .i64)).toArray t)) fun e w' => e = .returned (.int .i64 (first6 es)) ∧ w' = W.alloc (.cells (es.map (Value.int .i64)).toArray t) :=
 (errs6_new W es t).first11 hn
set_option maxRecDepth 100000 in
theorem fit11_calls (many most : Int) (w : World) : Calls Tryz.prog 72 #[.int .i64 many, .int .i64 most] w fun e w' => e = .returned (.int .i64 (err5 (decide (many ≤ most)) 7)) ∧ w' = w := by
 have HU : Hid (∀ b W, Calls Tryz.prog 108 #[.bool b, .int .i64 7] W fun e w' => e = .returned (.int .i64 (err5 b 7)) ∧ w' = W) := fun b W => unless11_calls b 7 W
 by_cases h : many ≤ most
 ·
  have hd : decide (many ≤ most) = true := decide_eq_true h
  rw [hd]
  go_enter Tryz.func72, Tryz.ntmps72
  go_wp2_with fail
  with_reducible refine (HU.out _ _).mono ?_
  rintro e w' ⟨rfl, rfl⟩
  go_wp2
  go_ret
  exact ⟨rfl, rfl⟩
 ·
  have hd : decide (many ≤ most) = false := decide_eq_false h
  rw [hd]
  go_enter Tryz.func72, Tryz.ntmps72
  go_wp2_with fail
  with_reducible refine (HU.out _ _).mono ?_
  rintro e w' ⟨rfl, rfl⟩
  go_wp2
  go_ret
  exact ⟨rfl, rfl⟩
set_option maxRecDepth 100000 in
theorem isMail11_calls (m : ByteArray) (w : World) (hm : m.size ≤ 9223372036854775807) (h5 : Len5 w) : Calls Tryz.prog 82 #[.string m] w (Errs5 (err5 (isM11 m.data.toList) 11) w) := by
 have HM := Lib.hid (mail_calls m w hm h5)
 by_cases h0 : m.size = 0
 ·
  obtain rfl : m = ⟨#[]⟩ := by
   obtain ⟨d⟩ := m
   obtain rfl : d = #[] := Array.eq_empty_of_size_eq_zero h0
   rfl
  have : err5 (isM11 (ByteArray.mk #[]).data.toList) 11 = 0 := by decide +kernel
  rw [this]
  clear HM
  go_enter Tryz.func82, Tryz.ntmps82
  go_wp2
  go_ret
  exact ⟨rfl, Below.refl _ _⟩
 ·
  have hne : ¬ m.toList = [] := fun e => h0 (by rw [← size_list, ← ByteArray.toList_eq, e]; rfl)
  have hne1 : ¬ m.data.toList = [] := fun e => h0 (by rw [← size_list, e]; rfl)
  have hne2 : m.toList.isEmpty = false := by simpa using hne
  have h1 : isM11 m.data.toList = mail5 m.data.toList := by unfold isM11; rw [decide_eq_false hne1, Bool.false_or]
  rw [h1]
  generalize mailT m.data.toList = t at *
  generalize mail5 m.data.toList = b at *
  unfold Mails5 at HM
  generalize err5 b 11 = r at *
  clear h1 hne1 hm h5
  go_enter Tryz.func82, Tryz.ntmps82
  go_wp2_with fail
  with_reducible refine HM.out.mono ?_
  rintro e w1 ⟨rfl, hb⟩
  have HB := Lib.hid hb
  clear hb HM
  go_wp2
  go_ret
  exact ⟨rfl, HB.out⟩

theorem fieldA11 (s : ByteArray) (b : Bool) (w : World) : (Instr.field 97 (.agg #[.string s, .bool b]) 1).run Tryz.prog w = .ok (.bool b) w := by kernel_rfl
section
variable {w0 w : World} {D P M G : Nat} {A : Acc11} {L : Row7} {S : Grs10}
set_option maxRecDepth 100000 in
theorem has11_calls (n : ByteArray) (h : Own11 w0 w D P M G A L S) (hn : n.size ≤ 9223372036854775807) : Calls Tryz.prog 109 #[.pointer (some ⟨D, 0, none⟩), .string n] w (Tells5 (hasV A n.data.toList) w) := by
 have c0 := h.c0
 have hl := h.look n hn
 have hz := zeroa11
 unfold av11 at hl
 have bl : ∀ v : ByteArray × Bool, Below w.heap.size w (w.alloc (.cells #[.string v.1, .bool v.2] 97)) := fun v => below_alloc (Below.refl _ _) _
 generalize hasV A n.data.toList = b at *
 generalize tx10 (hasA A n.data.toList) = s at *
 generalize disA A n.data.toList = d at *
 clear h
 go_enter Tryz.func109, Tryz.ntmps109
 go_wp2
 go_ret
 refine ⟨rfl, ?_⟩
 exact bl (s, d)
set_option maxRecDepth 100000 in
theorem isThere11_calls (n : ByteArray) (h : Own11 w0 w D P M G A L S) (hn : n.size ≤ 9223372036854775807) : Calls Tryz.prog 53 #[.pointer (some ⟨D, 0, none⟩), .string n] w (Errs5 (err5 (hasV A n.data.toList) 8) w) := by
 have HU : Hid (∀ b W, Calls Tryz.prog 108 #[.bool b, .int .i64 8] W fun e w' => e = .returned (.int .i64 (err5 b 8)) ∧ w' = W) := fun b W => unless11_calls b 8 W
 have HH := Lib.hid (has11_calls n h hn)
 clear h
 generalize hasV A n.data.toList = b at *
 go_enter Tryz.func53, Tryz.ntmps53
 go_wp2_with fail
 with_reducible refine HH.out.mono ?_
 rintro e w1 ⟨rfl, hb⟩
 have HB := Lib.hid hb
 clear hb HH
 go_wp2_with fail
 with_reducible refine (HU.out _ _).mono ?_
 rintro e w2 ⟨rfl, rfl⟩
 go_wp2
 go_ret
 exact ⟨rfl, HB.out⟩
set_option maxRecDepth 100000 in
theorem isFree11_calls (n : ByteArray) (h : Own11 w0 w D P M G A L S) (hn : n.size ≤ 9223372036854775807) : Calls Tryz.prog 80 #[.pointer (some ⟨D, 0, none⟩), .string n] w (Errs5 (err5 (!hasV A n.data.toList) 9) w) := by
 have HU : Hid (∀ b W, Calls Tryz.prog 108 #[.bool b, .int .i64 9] W fun e w' => e = .returned (.int .i64 (err5 b 9)) ∧ w' = W) := fun b W => unless11_calls b 9 W
 have HH := Lib.hid (has11_calls n h hn)
 clear h
 generalize hasV A n.data.toList = b at *
 go_enter Tryz.func80, Tryz.ntmps80
 go_wp2_with fail
 with_reducible refine HH.out.mono ?_
 rintro e w1 ⟨rfl, hb⟩
 have HB := Lib.hid hb
 clear hb HH
 go_wp2_with fail
 with_reducible refine (HU.out _ _).mono ?_
 rintro e w2 ⟨rfl, rfl⟩
 go_wp2
 go_ret
 exact ⟨rfl, HB.out⟩
set_option maxRecDepth 100000 in
theorem isOpen11_calls (n : ByteArray) (h : Own11 w0 w D P M G A L S) (hn : n.size ≤ 9223372036854775807) : Calls Tryz.prog 91 #[.pointer (some ⟨D, 0, none⟩), .string n] w (Errs5 (err5 (!disA A n.data.toList) 12) w) := by
 have HU : Hid (∀ b W, Calls Tryz.prog 108 #[.bool b, .int .i64 12] W fun e w' => e = .returned (.int .i64 (err5 b 12)) ∧ w' = W) := fun b W => unless11_calls b 12 W
 have c0 := h.c0
 have hl := h.look1 n hn
 unfold av11 at hl
 have hfl := fieldA11
 clear h
 generalize tx10 (hasA A n.data.toList) = s at *
 generalize disA A n.data.toList = b at *
 go_enter Tryz.func91, Tryz.ntmps91
 go_wp2_with fail
 with_reducible refine (HU.out _ _).mono ?_
 rintro e w2 ⟨rfl, rfl⟩
 go_wp2
 go_ret
 exact ⟨rfl, Below.refl _ _⟩
set_option maxRecDepth 100000 in
theorem isNotYet11_calls (n : ByteArray) (is_ : Bool) (h : Own11 w0 w D P M G A L S) (hn : n.size ≤ 9223372036854775807) : Calls Tryz.prog 92 #[.pointer (some ⟨D, 0, none⟩), .string n, .bool is_] w (Errs5 (err5 (!(disA A n.data.toList == is_)) 12) w) := by
 have HU : Hid (∀ b W, Calls Tryz.prog 108 #[.bool b, .int .i64 12] W fun e w' => e = .returned (.int .i64 (err5 b 12)) ∧ w' = W) := fun b W => unless11_calls b 12 W
 have c0 := h.c0
 have hl := h.look1 n hn
 unfold av11 at hl
 have hfl := fieldA11
 clear h
 generalize tx10 (hasA A n.data.toList) = s at *
 generalize disA A n.data.toList = b at *
 cases b <;> cases is_
 all_goals
  go_enter Tryz.func92, Tryz.ntmps92
  go_wp2_with fail
  with_reducible refine (HU.out _ _).mono ?_
  rintro e w2 ⟨rfl, rfl⟩
  go_wp2
  go_ret
  exact ⟨rfl, Below.refl _ _⟩
set_option maxRecDepth 100000 in
theorem nlen11_calls (h : Own11 w0 w D P M G A L S) : Calls Tryz.prog 49 #[.pointer (some ⟨D, 0, none⟩)] w fun e w' => e = .returned (.int .i64 A.length) ∧ w' = w := by
 have c0 := h.c0
 have hl := h.lenA
 generalize A.length = n at *
 clear h
 go_enter Tryz.func49, Tryz.ntmps49
 go_wp2
 go_ret
 exact ⟨rfl, rfl⟩
set_option maxRecDepth 100000 in
theorem nfind11_calls (m : ByteArray) (h : Own11 w0 w D P M G A L S) (hm : m.size ≤ 9223372036854775807) (h5 : Len5 w) : Calls Tryz.prog 14 #[.pointer (some ⟨D, 0, none⟩), .string m] w fun e w' => e = .returned (.tuple #[.string (tx7 (fiS9 L m.data.toList)), .int .i64 (fiE9 L m.data.toList)]) ∧ Below w.heap.size w w' := by
 have c1 := h.c1
 have HF := Lib.hid (h.mfind m hm h5)
 clear h
 generalize tx7 (fiS9 L m.data.toList) = s at *
 generalize fiE9 L m.data.toList = x at *
 go_enter Tryz.func14, Tryz.ntmps14
 go_wp2_with fail
 with_reducible refine HF.out.mono ?_
 rintro e w1 ⟨rfl, hb⟩
 have HB := Lib.hid hb
 clear hb HF c1
 go_wp2
 go_ret2
 exact ⟨rfl, HB.out⟩
variable {k : Nat}
set_option maxRecDepth 100000 in
theorem ngroups11_calls (h : Own11 w0 w D P M G A L S) (hk : Good10 S k) : Calls Tryz.prog 50 #[.pointer (some ⟨D, 0, none⟩)] w (Names10 (names10 S) w) := by
 have c2 := h.c2
 have HF := Lib.hid (h.gall hk)
 clear h hk
 generalize names10 S = s at *
 go_enter Tryz.func50, Tryz.ntmps50
 go_wp2_with fail
 with_reducible refine HF.out.mono ?_
 rintro e w1 ⟨v, rfl, hr⟩
 have HR := Lib.hid hr
 clear hr HF c2
 go_wp2
 go_ret
 exact ⟨v, rfl, HR.out⟩
end
end Go.Proofs.YthlgmkfofebbfaaGreatDoor


namespace Go.Proofs.YthlgmkfofebbfaaGreatDoor
open Go.RowKit Go.Maps

def Ac11 (W : World) (b : Nat) (s : ByteArray) (d : Bool) : Prop := W.heap[b]? = some (.cells #[.string s, .bool d] 97 (0, 0))
section
variable {W W' : World} {b : Nat} {s : ByteArray} {d : Bool}
theorem Ac11.c0 (h : Ac11 W b s d) : W.cell? ⟨b, 0, none⟩ = some (.string s) := by simp [World.cell?, show W.heap[b]? = _ from h]
theorem Ac11.c1 (h : Ac11 W b s d) : W.cell? ⟨b, 1, none⟩ = some (.bool d) := by simp [World.cell?, show W.heap[b]? = _ from h]
theorem Ac11.f0 (h : Ac11 W b s d) : W.frozen? ⟨b, 0, none⟩ = false := by simp [World.frozen?, show W.heap[b]? = _ from h]
theorem Ac11.f1 (h : Ac11 W b s d) : W.frozen? ⟨b, 1, none⟩ = false := by simp [World.frozen?, show W.heap[b]? = _ from h]
theorem Ac11.lt (h : Ac11 W b s d) : b < W.heap.size := (Array.getElem?_eq_some_iff.1 h).1
theorem Ac11.later (h : Ac11 W b s d) (hb : Below W.heap.size W W') : Ac11 W' b s d := (hb.block b h.lt).trans h
theorem ac11_new (W : World) (s : ByteArray) (d : Bool) : Ac11 (W.alloc (.cells #[.string s, .bool d] 97)) W.heap.size s d := (MapKept.heap_alloc W _).1
theorem Ac11.set0 (h : Ac11 W b s d) (x : ByteArray) : Ac11 (W.setCell ⟨b, 0, none⟩ (.string x)) b x d := by
 have h' : W.heap[b]? = some (.cells #[.string s, .bool d] 97 (0, 0)) := h
 have hl := h.lt
 have := h'
 rw [Array.getElem?_eq_getElem hl] at this
 injection this with this
 show (W.setCell ⟨b, 0, none⟩ (.string x)).heap[b]? = _
 simp [World.setCell, hl, Array.getElem_modify, this]
theorem Ac11.set1 (h : Ac11 W b s d) (x : Bool) : Ac11 (W.setCell ⟨b, 1, none⟩ (.bool x)) b s x := by
 have h' : W.heap[b]? = some (.cells #[.string s, .bool d] 97 (0, 0)) := h
 have hl := h.lt
 have := h'
 rw [Array.getElem?_eq_getElem hl] at this
 injection this with this
 show (W.setCell ⟨b, 1, none⟩ (.bool x)).heap[b]? = _
 simp [World.setCell, hl, Array.getElem_modify, this]
end

def YPt11 (D P : Nat) (n h : ByteArray) (d : Bool) : Nat → Value → Prop
 | 3, v => v = .map (some P)
 | 4, v => v = .string n
 | 5, v => v = .string n
 | 6, v => v = .agg #[.string h, .bool d]
 | _, v => v = .pointer (some ⟨D, 0, none⟩)
def YPtW11 (D P : Nat) (n h : ByteArray) (d : Bool) (j : Nat) (v : Value) (_ : World) : Prop := YPt11 D P n h d j v
section
variable {w0 w : World} {D P M G : Nat} {A : Acc11} {L : Row7} {S : Grs10}
set_option maxRecDepth 100000 in
set_option maxHeartbeats 1000000 in
theorem put11_calls (n h : ByteArray) (d : Bool) (ho : Own11 w0 w D P M G A L S) (hf : A.length ≤ 1000) (hn : n.size ≤ 1000) (hh : h.size ≤ 1000) :
  Calls Tryz.prog 81 #[.pointer (some ⟨D, 0, none⟩), .string n, .agg #[.string h, .bool d]] w fun e w' => e = .returned (.tuple #[]) ∧ Goes11 w0 w D P M G (putV A n.data.toList (h.data.toList, d)) L S w' := by
 have HC : Hid (∀ W, Calls Tryz.prog 85 #[.string n] W fun e w' => e = .returned (.string n) ∧ Below W.heap.size W w') := fun W => sclone10_calls n W hn
 have HC1 : Hid (∀ W, Calls Tryz.prog 85 #[.string h] W fun e w' => e = .returned (.string h) ∧ Below W.heap.size W w') := fun W => sclone10_calls h W hh
 have HO := Lib.hid ho
 have HST : Hid (∀ W, Below w.heap.size w W → ∃ w', (Instr.mapUpdate 64 (.map (some P)) (.string n) (.agg #[.string h, .bool d])).run Tryz.prog W = .ok () w' ∧ Goes11 w0 w D P M G (putV A n.data.toList (h.data.toList, d)) L S w') := fun W hb => by
  obtain ⟨w', h1, h2⟩ := (ho.later hb).store hf n h d (Nat.le_trans hn (by decide))
  exact ⟨w', h1, h2.ahead hb⟩
 have HA := Lib.hid (ac11_new w h d)
 have HB0 : Hid (Below w.heap.size w (w.alloc (.cells #[.string h, .bool d] 97))) := below_alloc (Below.refl _ _) _
 clear ho hf hn hh
 go_enter Tryz.func81, Tryz.ntmps81
 go_wp2_with fail
 with_reducible refine (HC1.out _).mono ?_
 rintro e w1 ⟨rfl, hb⟩
 have ha := HA.out.later hb
 have f0 := ha.f0
 have c0 := ha.c0
 have HA1 := Lib.hid (ha.set0 h)
 have HB1 : Hid (Below w.heap.size w (w1.setCell ⟨w.heap.size, 0, none⟩ (.string h))) := (below_next HB0.out hb).setCell (p := ⟨w.heap.size, 0, none⟩) (Nat.le_refl _) _
 clear hb HA HB0 HC1 ha
 go_wp2_with fail
 generalize w1.setCell ⟨w.heap.size, 0, none⟩ (.string h) = w2 at *
 generalize w.heap.size = B5 at HA1
 clear f0 c0
 refine wp_region_last (by kernel_rfl) 7 (fun W => Below w2.heap.size w2 W) (fun W => Goes11 w0 w D P M G (putV A n.data.toList (h.data.toList, d)) L S W) (YPtW11 D P n h d) (fun _ => True) ?F ?hF (by kernel_rfl) (by kernel_rfl) (by kernel_rfl) (by kernel_rfl) (by decide) (below_drew (Below.refl _ _)) ?step ?fin
 case hF =>
  intro x
  simp only [List.map_cons, List.map_nil, putL, Act.put, List.setIfInBounds_toArray, List.set_cons_zero, List.set_cons_succ, Nat.zero_add, Nat.reduceAdd]
  exact rfl
 case step =>
  refine ⟨?_, ?_, ?_, ?_, ?_, ?_, ?_, ?_, trivial⟩
  ·
   intro x W
   refine ⟨fun _ hW hdep K hK => ?_, (fun h => absurd h (by decide)), (fun h => absurd h (by decide))⟩
   clear hdep
   go_simp
   exact hK _ _ rfl hW (fun _ _ h => h)
  ·
   intro x W
   refine ⟨fun _ hW hdep K hK => ?_, (fun h => absurd h (by decide)), (fun h => absurd h (by decide))⟩
   have h0 : x 0 = _ := hdep 0 rfl
   clear hdep
   simp only [h0] at hK
   go_simp
   exact hK _ _ rfl hW (fun _ _ h => h)
  ·
   intro x W
   refine ⟨fun _ hW hdep K hK => ?_, (fun h => absurd h (by decide)), (fun h => absurd h (by decide))⟩
   have h1 : x 1 = _ := hdep 1 rfl
   clear hdep
   simp only [h1] at hK
   go_simp
   exact hK _ _ rfl hW (fun _ _ h => h)
  ·
   intro x W
   refine ⟨fun _ hW hdep K hK => ?_, (fun h => absurd h (by decide)), (fun h => absurd h (by decide))⟩
   have h2 : x 2 = _ := hdep 2 rfl
   have c := (HO.out.later (below_next HB1.out hW)).c0
   clear hdep
   simp only [h2] at hK
   go_simp
   exact hK _ _ rfl hW (fun _ _ h => h)
  ·
   intro x W
   refine ⟨fun _ hW hdep K hK => ?_, (fun h => absurd h (by decide)), (fun h => absurd h (by decide))⟩
   clear hdep
   go_simp
   exact hK _ _ rfl hW (fun _ _ h => h)
  ·
   intro x W
   refine ⟨fun _ hW hdep K hK => ?_, (fun h => absurd h (by decide)), (fun h => absurd h (by decide))⟩
   have h4 : x 4 = _ := hdep 4 rfl
   have hc := HC.out W
   clear hdep
   simp only [h4] at hK
   go_simp
   refine hc.mono ?_
   rintro e W' ⟨rfl, hb⟩
   exact hK _ _ rfl (below_next hW hb) (fun _ _ h => h)
  ·
   intro x W
   refine ⟨fun _ hW hdep K hK => ?_, (fun h => absurd h (by decide)), (fun h => absurd h (by decide))⟩
   have hx := HA1.out.later hW
   have c0 := hx.c0
   have c1 := hx.c1
   clear hdep
   go_simp
   exact hK _ _ rfl hW (fun _ _ h => h)
  ·
   intro x W
   refine ⟨(fun h => absurd h (by decide)), fun _ hW hdep K hK => ?_, (fun h => absurd h (by decide))⟩
   have h3 : x 3 = _ := hdep 3 rfl
   have h5 : x 5 = _ := hdep 5 rfl
   have h6 : x 6 = _ := hdep 6 rfl
   obtain ⟨w', hrun, hg⟩ := HST.out W (below_next HB1.out hW)
   clear hdep
   simp only [h3, h5, h6] at hK
   go_simp
   exact hK undef _ trivial hg
 case fin =>
  intro x W hW _
  have HF := Lib.hid hW
  clear hW HST HC HA1 HB1 HO
  go_end0
  exact ⟨rfl, HF.out⟩

def YPm11 (D M : Nat) (n m : ByteArray) : Nat → Value → Prop
 | 2, v => v = .pointer (some ⟨D, 1, none⟩)
 | 3, v => v = .pointer (some ⟨M, 0, none⟩)
 | 4, v => v = .string n
 | 5, v => v = .string n
 | 6, v => v = .string m
 | _, v => v = .pointer (some ⟨D, 0, none⟩)
def YPmW11 (D M : Nat) (n m : ByteArray) (j : Nat) (v : Value) (_ : World) : Prop := YPm11 D M n m j v
set_option maxRecDepth 100000 in
set_option maxHeartbeats 1000000 in
theorem putMail11_calls (n m : ByteArray) (ho : Own11 w0 w D P M G A L S) (hl : L.length < 100) (h5 : Len5 w) (hn : n.size ≤ 1000) (hm : m.size ≤ 9223372036854775807) :
  Calls Tryz.prog 83 #[.pointer (some ⟨D, 0, none⟩), .string n, .string m] w fun e w' => e = .returned (.int .i64 (seE9 L n.data.toList m.data.toList)) ∧ Goes11 w0 w D P M G A (seL9 L n.data.toList m.data.toList) S w' := by
 have HC : Hid (∀ W, Calls Tryz.prog 85 #[.string n] W fun e w' => e = .returned (.string n) ∧ Below W.heap.size W w') := fun W => sclone10_calls n W hn
 have HO := Lib.hid ho
 have HST : Hid (∀ W, Below w.heap.size w W → Calls Tryz.prog 131 #[.pointer (some ⟨M, 0, none⟩), .string n, .string m] W fun e w' => e = .returned (.int .i64 (seE9 L n.data.toList m.data.toList)) ∧ Goes11 w0 w D P M G A (seL9 L n.data.toList m.data.toList) S w') := fun W hb =>
  ((ho.later hb).mset n m (Nat.le_trans hn (by decide)) hm hl (h5.later hb)).mono fun e w' ⟨he, hg⟩ => ⟨he, hg.ahead hb⟩
 clear ho hl hn hm h5
 generalize seE9 L n.data.toList m.data.toList = r at *
 generalize seL9 L n.data.toList m.data.toList = L' at *
 go_enter Tryz.func83, Tryz.ntmps83
 go_wp2_with fail
 refine wp_region_last (by kernel_rfl) 7 (fun W => Below w.heap.size w W) (fun W => Goes11 w0 w D P M G A L' S W) (YPmW11 D M n m) (fun v => v = .int .i64 r) ?F ?hF (by kernel_rfl) (by kernel_rfl) (by kernel_rfl) (by kernel_rfl) (by decide) (below_drew (Below.refl _ _)) ?step ?fin
 case hF =>
  intro x
  simp only [List.map_cons, List.map_nil, putL, Act.put, List.setIfInBounds_toArray, List.set_cons_zero, List.set_cons_succ, Nat.zero_add, Nat.reduceAdd]
  exact rfl
 case step =>
  refine ⟨?_, ?_, ?_, ?_, ?_, ?_, ?_, ?_, ?_, trivial⟩
  ·
   intro x W
   refine ⟨fun _ hW hdep K hK => ?_, (fun h => absurd h (by decide)), (fun h => absurd h (by decide))⟩
   clear hdep
   go_simp
   exact hK _ _ rfl hW (fun _ _ h => h)
  ·
   intro x W
   refine ⟨fun _ hW hdep K hK => ?_, (fun h => absurd h (by decide)), (fun h => absurd h (by decide))⟩
   have h0 : x 0 = _ := hdep 0 rfl
   clear hdep
   simp only [h0] at hK
   go_simp
   exact hK _ _ rfl hW (fun _ _ h => h)
  ·
   intro x W
   refine ⟨fun _ hW hdep K hK => ?_, (fun h => absurd h (by decide)), (fun h => absurd h (by decide))⟩
   have h1 : x 1 = _ := hdep 1 rfl
   clear hdep
   simp only [h1] at hK
   go_simp
   exact hK _ _ rfl hW (fun _ _ h => h)
  ·
   intro x W
   refine ⟨fun _ hW hdep K hK => ?_, (fun h => absurd h (by decide)), (fun h => absurd h (by decide))⟩
   have h2 : x 2 = _ := hdep 2 rfl
   have c := (HO.out.later hW).c1
   clear hdep
   simp only [h2] at hK
   go_simp
   exact hK _ _ rfl hW (fun _ _ h => h)
  ·
   intro x W
   refine ⟨fun _ hW hdep K hK => ?_, (fun h => absurd h (by decide)), (fun h => absurd h (by decide))⟩
   clear hdep
   go_simp
   exact hK _ _ rfl hW (fun _ _ h => h)
  ·
   intro x W
   refine ⟨fun _ hW hdep K hK => ?_, (fun h => absurd h (by decide)), (fun h => absurd h (by decide))⟩
   have h4 : x 4 = _ := hdep 4 rfl
   have hc := HC.out W
   clear hdep
   simp only [h4] at hK
   go_simp
   refine hc.mono ?_
   rintro e W' ⟨rfl, hb⟩
   exact hK _ _ rfl (below_next hW hb) (fun _ _ h => h)
  ·
   intro x W
   refine ⟨fun _ hW hdep K hK => ?_, (fun h => absurd h (by decide)), (fun h => absurd h (by decide))⟩
   clear hdep
   go_simp
   exact hK _ _ rfl hW (fun _ _ h => h)
  ·
   intro x W
   refine ⟨(fun h => absurd h (by decide)), fun _ hW hdep K hK => ?_, (fun h => absurd h (by decide))⟩
   have h3 : x 3 = _ := hdep 3 rfl
   have h5 : x 5 = _ := hdep 5 rfl
   have h6 : x 6 = _ := hdep 6 rfl
   have hc := HST.out W hW
   clear hdep
   simp only [h3, h5, h6] at hK
   go_simp
   refine hc.mono ?_
   rintro e W' ⟨rfl, hg⟩
   exact hK _ _ rfl hg
  ·
   intro x W
   refine ⟨(fun h => absurd h (by decide)), (fun h => absurd h (by decide)), fun _ hW hdep K hK => ?_⟩
   have h7 : x 7 = _ := hdep 7 rfl (by decide)
   clear hdep
   simp only [h7] at hK
   go_simp
   exact hK _ rfl
 case fin =>
  intro x W hW hZ
  have h8 : x 8 = .int .i64 r := hZ 8 (by decide) (by decide)
  have HF := Lib.hid hW
  clear hW hZ HST HC HO
  rw [h8]
  go_wp2
  go_ret
  exact ⟨rfl, HF.out⟩
end
end Go.Proofs.YthlgmkfofebbfaaGreatDoor

