/-
  The texts that the laws of this seat share, part 2: what the code and the document's own answers tell, walked function by function.
  Conditions: each theorem's own.
-/
import Derived.Lib.IndexBytes
import Derived.Lib.SplitLaws
import Derived.Lib.CountLaws
import Derived.Lib.Bytealg
import Derived.Shelf.Small.Bits
import Derived.Shelf.Small.Strs
import Derived.Shelf.Strconv.Itoa0
import Derived.Shelf.Strings.Search1
import Derived.Shelf.Strings.Search2
import Derived.Shelf.Strings.Search3
import Derived.Shelf.Strings.Cut
import Derived.Shelf.Strings.Count
import Derived.Shelf.LaysM
import Derived.Shelf.Strings.Shaped
import Derived.Shelf.Strings.Split
import Derived.Shelf.Strings.SplitShaped
import Derived.Shelf.Unicode.DecodeSlow
import Derived.Shelf.Slices.Equal
import Derived.Shelf.Slices.Empties2
import Derived.Ground.SlsfProg
import Derived.Shelf.SlSortCmp.Insertion
import Derived.Shelf.SlSortCmp.Insertion1
import Derived.Shelf.SlSortCmp.ReverseRange1
import Derived.Shelf.SlSortCmp.PartialInsertion1
import Derived.Shelf.SlSortCmp.PartitionEqual1
import Derived.Shelf.SlSortCmp.Partition1
import Derived.Ground.GgzProg
import Derived.Shelf.SlIter.Nil
import Derived.Test.YtoeepbmbfambcaaGreatDoorProg
import Derived.BigQuiet
import Derived.Orders
import Derived.Test.YtoeepbmbfambcaaGreatDoorShotAllA
namespace Go.Proofs.YtoeepbmbfambcaaGreatDoor

/-- The parts of a list between the bytes c. -/
def parts5 (c : UInt8) : List UInt8 → List (List UInt8)
  | [] => [[]]
  | x :: l => if x = c then [] :: parts5 c l else (x :: (parts5 c l).headD []) :: (parts5 c l).tail

theorem parts_ne (c : UInt8) (l : List UInt8) : ∃ p ps, parts5 c l = p :: ps := by
  cases l with
  | nil => exact ⟨_, _, rfl⟩
  | cons x l =>
    unfold parts5
    split
    · exact ⟨_, _, rfl⟩
    · exact ⟨_, _, rfl⟩

theorem parts_step (c : UInt8) : ∀ l : List UInt8, (Lib.indexByte l c = -1 → parts5 c l = [l]) ∧
    (∀ i : Nat, Lib.indexByte l c = i → parts5 c l = l.take i :: parts5 c (l.drop (i + 1)))
  | [] => ⟨fun _ => rfl, fun i h => by simp [Lib.indexByte] at h⟩
  | x :: l => by
    obtain ⟨h1, h2⟩ := parts_step c l
    have hg := Lib.indexByte_ge l c
    unfold Lib.indexByte
    by_cases e : x = c
    · subst e
      refine ⟨fun h => by simp at h, fun i h => ?_⟩
      simp at h
      obtain rfl : i = 0 := by omega
      simp [parts5]
    · have e' : (x == c) = false := by simpa using e
      rw [e']
      by_cases hm : Lib.indexByte l c = -1
      · refine ⟨fun _ => ?_, fun i h => by simp [hm] at h⟩
        simp [parts5, e, h1 hm]
      · have hm' : (Lib.indexByte l c == -1) = false := by simpa using hm
        rw [hm']
        refine ⟨fun h => by simp at h; omega, fun i h => ?_⟩
        simp at h
        obtain ⟨j, hj⟩ := Int.eq_ofNat_of_zero_le (show 0 ≤ Lib.indexByte l c by omega)
        obtain rfl : i = j + 1 := by omega
        simp [parts5, e, h2 j hj]

theorem split_parts (c : UInt8) : ∀ (n : Nat) (l : List UInt8), l.length ≤ n → Lib.splitK [c] 0 (Lib.count l [c]) l = parts5 c l
  | n, l, hn => by
    obtain ⟨h1, h2⟩ := parts_step c l
    have hi := Lib.index_one l c
    by_cases hm : Lib.indexByte l c = -1
    · rw [Lib.count_miss (hi.trans hm), h1 hm]; rfl
    · have hg := Lib.indexByte_ge l c
      obtain ⟨i, hj⟩ := Int.eq_ofNat_of_zero_le (show 0 ≤ Lib.indexByte l c by omega)
      have hr := Lib.index_room l [c] (by rw [hi, hj]; omega)
      rw [hi, hj] at hr
      simp at hr
      cases n with
      | zero => omega
      | succ n =>
        have hc : Lib.count l [c] = 1 + Lib.count (l.drop (i + 1)) [c] := by
          have := Lib.count_hit (s := l) (sub := [c]) (i := i) (by simp) (hi.trans hj)
          simpa using this
        rw [hc, Nat.add_comm, h2 i hj, ← split_parts c n (l.drop (i + 1)) (by simp; omega)]
        have hne : (Lib.index l [c] == -1) = false := by rw [hi, hj]; simp
        rw [Lib.splitK, hne]
        simp [hi, hj]

/-- A label: bytes that p asks for, one at least. -/
def labP5 (p : UInt8 → Bool) (l : List UInt8) : Bool := decide (1 ≤ l.length) && l.all p
/-- Labels with one stop between each two, two at least. -/
def dom5 (p : UInt8 → Bool) (l : List UInt8) : Bool := (parts5 46 l).all (labP5 p) && decide (2 ≤ (parts5 46 l).length)
/-- The same, byte by byte: how many stops there were, how long the last label is. -/
def scan5 (p : UInt8 → Bool) : List UInt8 → Nat → Nat → Bool
  | [], st, lg => decide (1 ≤ st) && decide (1 ≤ lg)
  | x :: l, st, lg => if x = 46 then (if lg = 0 then false else scan5 p l (st + 1) 0) else if p x then scan5 p l st (lg + 1) else false

theorem scan5_parts (p : UInt8 → Bool) : ∀ (l : List UInt8) (st lg : Nat) (q : List UInt8) (qs : List (List UInt8)), parts5 46 l = q :: qs →
    scan5 p l st lg = (q.all p && decide (1 ≤ lg + q.length) && qs.all (labP5 p) && decide (1 ≤ st + qs.length))
  | [], st, lg, q, qs, h => by
    simp [parts5] at h
    obtain ⟨rfl, rfl⟩ := h
    simp [scan5, Bool.and_comm]
  | x :: l, st, lg, q, qs, h => by
    obtain ⟨q', qs', h'⟩ := parts_ne 46 l
    rw [parts5, h'] at h
    unfold scan5
    by_cases e : x = 46
    · rw [if_pos e] at h ⊢
      simp at h
      obtain ⟨rfl, rfl⟩ := h
      by_cases hl : lg = 0
      · subst hl; simp
      · rw [if_neg hl, scan5_parts p l (st + 1) 0 q' qs' h']
        have z1 : decide (1 ≤ lg + ([] : List UInt8).length) = true := by simp; omega
        have z2 : decide (1 ≤ st + 1 + qs'.length) = true := by simp; omega
        have z3 : decide (1 ≤ st + (q' :: qs').length) = true := by simp; omega
        rw [z1, z2, z3]
        simp [labP5, Bool.and_comm]
    · rw [if_neg e] at h ⊢
      simp at h
      obtain ⟨rfl, rfl⟩ := h
      cases hp : p x with
      | false => simp [hp]
      | true =>
        rw [if_pos rfl, scan5_parts p l st (lg + 1) q' qs' h']
        have z1 : decide (1 ≤ lg + (x :: q').length) = true := by simp; omega
        have z2 : decide (1 ≤ lg + 1 + q'.length) = true := by simp; omega
        rw [z1, z2]
        simp [hp]

theorem scan5_dom (p : UInt8 → Bool) (l : List UInt8) : scan5 p l 0 0 = dom5 p l := by
  obtain ⟨q, qs, h⟩ := parts_ne 46 l
  rw [scan5_parts p l 0 0 q qs h, dom5, h]
  have : decide (1 ≤ 0 + qs.length) = decide (2 ≤ (q :: qs).length) := by simp
  rw [this]
  simp [labP5, Bool.and_comm, Bool.and_assoc, Bool.and_left_comm]

theorem cmp_anti : ∀ a b : List UInt8, Lib.compareBytes b a = - Lib.compareBytes a b
  | [], [] => rfl
  | [], _ :: _ => rfl
  | _ :: _, [] => rfl
  | x :: a, y :: b => by
    unfold Lib.compareBytes
    by_cases h1 : x < y
    · have h2 : ¬ y < x := by rw [UInt8.lt_iff_toNat_lt] at *; omega
      simp [h1, h2]
    · by_cases h2 : y < x
      · simp [h1, h2]
      · simp only [if_neg h1, if_neg h2]
        exact cmp_anti a b
theorem cmp_cases : ∀ a b : List UInt8, Lib.compareBytes a b = -1 ∨ Lib.compareBytes a b = 0 ∨ Lib.compareBytes a b = 1
  | [], [] => by simp [Lib.compareBytes]
  | [], _ :: _ => by simp [Lib.compareBytes]
  | _ :: _, [] => by simp [Lib.compareBytes]
  | x :: a, y :: b => by
    unfold Lib.compareBytes
    split
    · simp
    · split
      · simp
      · exact cmp_cases a b
theorem cmp_trans : ∀ a b c : List UInt8, Lib.compareBytes a b ≤ 0 → Lib.compareBytes b c ≤ 0 → Lib.compareBytes a c ≤ 0
  | [], _, [], _, _ => by simp [Lib.compareBytes]
  | [], _, _ :: _, _, _ => by simp [Lib.compareBytes]
  | _ :: _, [], _, h, _ => by simp [Lib.compareBytes] at h
  | _ :: _, _ :: _, [], _, h => by simp [Lib.compareBytes] at h
  | x :: a, y :: b, z :: c, h1, h2 => by
    unfold Lib.compareBytes at *
    simp only [UInt8.lt_iff_toNat_lt] at *
    by_cases e1 : x.toNat < y.toNat
    · by_cases e2 : y.toNat < z.toNat
      · rw [if_pos (by omega)]; omega
      · rw [if_neg e2] at h2
        by_cases e3 : z.toNat < y.toNat
        · rw [if_pos e3] at h2; omega
        · rw [if_pos (by omega)]; omega
    · rw [if_neg e1] at h1
      by_cases e2 : y.toNat < x.toNat
      · rw [if_pos e2] at h1; omega
      · rw [if_neg e2] at h1
        by_cases e3 : y.toNat < z.toNat
        · rw [if_pos (by omega)]; omega
        · rw [if_neg e3] at h2
          by_cases e4 : z.toNat < y.toNat
          · rw [if_pos e4] at h2; omega
          · rw [if_neg e4] at h2
            rw [if_neg (by omega), if_neg (by omega)]
            exact cmp_trans a b c h1 h2
end Go.Proofs.YtoeepbmbfambcaaGreatDoor

namespace Go.Proofs
open Go.Shelf
def Tryz.lays106_ren : Go.Shelf.Ren := ⟨fun | 106 => 84 | 213 => 105 | 265 => 127 | n => n, fun | 9 => 9 | 3 => 3 | n => n, fun | n => n⟩
theorem Tryz.lays106 : Go.Proofs.Lays.n106 Tryz.prog Tryz.lays106_ren := {
  mixed := by kernel_rfl
  f106 := Tryz.func84.trans (congrArg some (by kernel_rfl))
  f213 := Tryz.func105.trans (congrArg some (by kernel_rfl))
  f265 := Tryz.func127.trans (congrArg some (by kernel_rfl))
  t3 := Tryz.underlying3
  a3 := Tryz.isAgg3
  z3 := Tryz.sizeOf3
  v3 := Tryz.zeroValue3
  t9 := Tryz.underlying9
  a9 := Tryz.isAgg9
  z9 := Tryz.sizeOf9
  v9 := Tryz.zeroValue9 }
open Go.RowKit in
theorem Tryz.strings_Compare (a b : ByteArray) (w : World) :
    Calls Tryz.prog 84 #[.string a, .string b] w fun e w' => e = .returned (.int .i64 (Lib.compareBytes a.data.toList b.data.toList)) ∧ w' = w := Any.strings_Compare Tryz.lays106 a b w
def Tryz.lays145_ren : Go.Shelf.Ren := ⟨fun | 145 => 115 | 220 => 131 | 219 => 138 | 217 => 141 | 225 => 142 | 224 => 143 | 267 => 144 | 266 => 148 | 314 => 149 | n => n, fun | 9 => 9 | 4 => 4 | 59 => 149 | 3 => 3 | 5 => 5 | 46 => 141 | 146 => 176 | 51 => 160 | n => n, fun | 1 => 0 | n => n⟩
theorem Tryz.lays145 : Go.Proofs.Lays.n145 Tryz.prog Tryz.lays145_ren := {
  mixed := by kernel_rfl
  f145 := Tryz.func115.trans (congrArg some (by kernel_rfl))
  f217 := Tryz.func141.trans (congrArg some (by kernel_rfl))
  f219 := Tryz.func138.trans (congrArg some (by kernel_rfl))
  f220 := Tryz.func131.trans (congrArg some (by kernel_rfl))
  f224 := Tryz.func143.trans (congrArg some (by kernel_rfl))
  f225 := Tryz.func142.trans (congrArg some (by kernel_rfl))
  f266 := Tryz.func148.trans (congrArg some (by kernel_rfl))
  f267 := Tryz.func144.trans (congrArg some (by kernel_rfl))
  f314 := Tryz.func149.trans (congrArg some (by kernel_rfl))
  t3 := Tryz.underlying3
  a3 := Tryz.isAgg3
  z3 := Tryz.sizeOf3
  v3 := Tryz.zeroValue3
  t4 := Tryz.underlying4
  a4 := Tryz.isAgg4
  z4 := Tryz.sizeOf4
  v4 := Tryz.zeroValue4
  t5 := Tryz.underlying5
  a5 := Tryz.isAgg5
  z5 := Tryz.sizeOf5
  v5 := Tryz.zeroValue5
  t9 := Tryz.underlying9
  a9 := Tryz.isAgg9
  z9 := Tryz.sizeOf9
  v9 := Tryz.zeroValue9
  t46 := Tryz.underlying141
  a46 := Tryz.isAgg141
  z46 := Tryz.sizeOf141
  v46 := Tryz.zeroValue141
  t51 := Tryz.underlying160
  a51 := Tryz.isAgg160
  z51 := Tryz.sizeOf160
  v51 := Tryz.zeroValue160
  t59 := Tryz.underlying149
  a59 := Tryz.isAgg149
  z59 := Tryz.sizeOf149
  v59 := Tryz.zeroValue149
  t146 := Tryz.underlying176
  a146 := Tryz.isAgg176
  z146 := Tryz.sizeOf176
  v146 := Tryz.zeroValue176
  g1 := by kernel_rfl }
open Go.RowKit Go.Lib in
theorem Tryz.strings_Cut (s sep : ByteArray) (m : Int) (w : World) (hs : s.size < 4294967281) (hm : w.cell? ⟨0, 0, none⟩ = some (.int .i64 m)) :
    Calls Tryz.prog 115 #[.string s, .string sep] w fun e w' => e = .returned (.tuple #[.string ⟨(Lib.cut s.data.toList sep.data.toList).1.toArray⟩, .string ⟨(Lib.cut s.data.toList sep.data.toList).2.1.toArray⟩, .bool (Lib.cut s.data.toList sep.data.toList).2.2]) ∧ ∃ n, w' = w.drewN n := Any.strings_Cut Tryz.lays145 s sep m w hs hm
def Tryz.lays146_ren : Go.Shelf.Ren := ⟨fun | 146 => 132 | 221 => 139 | 268 => 145 | 138 => 146 | 143 => 147 | 195 => 150 | 197 => 151 | 218 => 152 | 219 => 138 | 260 => 153 | 217 => 141 | 225 => 142 | 224 => 143 | 267 => 144 | 266 => 148 | 314 => 149 | n => n, fun | 9 => 9 | 31 => 41 | 3 => 3 | 4 => 4 | 0 => 0 | 105 => 179 | 21 => 21 | 5 => 5 | 46 => 141 | 119 => 181 | 139 => 184 | 138 => 183 | 146 => 176 | 51 => 160 | n => n, fun | 1 => 0 | 3 => 1 | 4 => 2 | n => n⟩
theorem Tryz.lays146 : Go.Proofs.Lays.n146 Tryz.prog Tryz.lays146_ren := {
  mixed := by kernel_rfl
  f138 := Tryz.func146.trans (congrArg some (by kernel_rfl))
  f143 := Tryz.func147.trans (congrArg some (by kernel_rfl))
  f146 := Tryz.func132.trans (congrArg some (by kernel_rfl))
  f195 := Tryz.func150.trans (congrArg some (by kernel_rfl))
  f197 := Tryz.func151.trans (congrArg some (by kernel_rfl))
  f217 := Tryz.func141.trans (congrArg some (by kernel_rfl))
  f218 := Tryz.func152.trans (congrArg some (by kernel_rfl))
  f219 := Tryz.func138.trans (congrArg some (by kernel_rfl))
  f221 := Tryz.func139.trans (congrArg some (by kernel_rfl))
  f224 := Tryz.func143.trans (congrArg some (by kernel_rfl))
  f225 := Tryz.func142.trans (congrArg some (by kernel_rfl))
  f260 := Tryz.func153.trans (congrArg some (by kernel_rfl))
  f266 := Tryz.func148.trans (congrArg some (by kernel_rfl))
  f267 := Tryz.func144.trans (congrArg some (by kernel_rfl))
  f268 := Tryz.func145.trans (congrArg some (by kernel_rfl))
  f314 := Tryz.func149.trans (congrArg some (by kernel_rfl))
  t0 := Tryz.underlying0
  a0 := Tryz.isAgg0
  z0 := Tryz.sizeOf0
  v0 := Tryz.zeroValue0
  t3 := Tryz.underlying3
  a3 := Tryz.isAgg3
  z3 := Tryz.sizeOf3
  v3 := Tryz.zeroValue3
  t4 := Tryz.underlying4
  a4 := Tryz.isAgg4
  z4 := Tryz.sizeOf4
  v4 := Tryz.zeroValue4
  t5 := Tryz.underlying5
  a5 := Tryz.isAgg5
  z5 := Tryz.sizeOf5
  v5 := Tryz.zeroValue5
  t9 := Tryz.underlying9
  a9 := Tryz.isAgg9
  z9 := Tryz.sizeOf9
  v9 := Tryz.zeroValue9
  t21 := Tryz.underlying21
  a21 := Tryz.isAgg21
  z21 := Tryz.sizeOf21
  v21 := Tryz.zeroValue21
  t31 := Tryz.underlying41
  a31 := Tryz.isAgg41
  z31 := Tryz.sizeOf41
  v31 := Tryz.zeroValue41
  t46 := Tryz.underlying141
  a46 := Tryz.isAgg141
  z46 := Tryz.sizeOf141
  v46 := Tryz.zeroValue141
  t51 := Tryz.underlying160
  a51 := Tryz.isAgg160
  z51 := Tryz.sizeOf160
  v51 := Tryz.zeroValue160
  t105 := Tryz.underlying179
  a105 := Tryz.isAgg179
  z105 := Tryz.sizeOf179
  v105 := Tryz.zeroValue179
  t119 := Tryz.underlying181
  a119 := Tryz.isAgg181
  z119 := Tryz.sizeOf181
  t138 := Tryz.underlying183
  a138 := Tryz.isAgg183
  z138 := Tryz.sizeOf183
  v138 := Tryz.zeroValue183
  t139 := Tryz.underlying184
  a139 := Tryz.isAgg184
  z139 := Tryz.sizeOf184
  v139 := Tryz.zeroValue184
  t146 := Tryz.underlying176
  a146 := Tryz.isAgg176
  z146 := Tryz.sizeOf176
  v146 := Tryz.zeroValue176
  g1 := by kernel_rfl
  g3 := by kernel_rfl
  g4 := by kernel_rfl }
open Go.RowKit Go.Lib in
theorem Tryz.strings_Split (s sep : ByteArray) (m : Int) (w : World) (hs : s.size < 4294967281) (hm : w.cell? ⟨0, 0, none⟩ = some (.int .i64 m)) (h1 : 1 ≤ sep.size) :
    Calls Tryz.prog 132 #[.string s, .string sep] w fun e w' =>
      e = .returned (.slice (some ⟨w.heap.size, 0, none⟩) (Lib.countB s sep + 1) (Lib.countB s sep + 1)) ∧ w' = w.alloc (.cells ((Lib.splitB sep 0 (Lib.countB s sep) s).map Value.string).toArray 9) := Any.strings_Split Tryz.lays146 (by kernel_rfl) s sep m w hs hm h1
def Tryz.lays193_ren : Go.Shelf.Ren := ⟨fun | 193 => 113 | n => n, fun | 31 => 41 | 9 => 9 | 4 => 4 | 3 => 3 | 0 => 0 | n => n, fun | n => n⟩
theorem Tryz.lays193 : Go.Proofs.Lays.n193 Tryz.prog Tryz.lays193_ren := {
  mixed := by kernel_rfl
  f193 := Tryz.func113.trans (congrArg some (by kernel_rfl))
  t0 := Tryz.underlying0
  a0 := Tryz.isAgg0
  z0 := Tryz.sizeOf0
  v0 := Tryz.zeroValue0
  t3 := Tryz.underlying3
  a3 := Tryz.isAgg3
  z3 := Tryz.sizeOf3
  v3 := Tryz.zeroValue3
  t4 := Tryz.underlying4
  a4 := Tryz.isAgg4
  z4 := Tryz.sizeOf4
  v4 := Tryz.zeroValue4
  t9 := Tryz.underlying9
  a9 := Tryz.isAgg9
  z9 := Tryz.sizeOf9
  v9 := Tryz.zeroValue9
  t31 := Tryz.underlying41
  a31 := Tryz.isAgg41
  z31 := Tryz.sizeOf41
  v31 := Tryz.zeroValue41 }
open Go.RowKit Go.Lib in
theorem Tryz.slices_Equal_string (b1 o1 n c b2 o2 m d : Nat) (xs ys : List ByteArray) (w : World) (hx : n ≤ xs.length) (hy : m ≤ ys.length) (hbig : n ≤ 9223372036854775807) (hbig2 : m ≤ 9223372036854775807) (hc1 : ∀ j, j < xs.length → w.cell? ⟨b1, o1 + j, none⟩ = some (.string (xs.getD j ByteArray.empty))) (hc2 : ∀ j, j < ys.length → w.cell? ⟨b2, o2 + j, none⟩ = some (.string (ys.getD j ByteArray.empty))) :
    Calls Tryz.prog 113 #[.slice (some ⟨b1, o1, none⟩) n c, .slice (some ⟨b2, o2, none⟩) m d] w fun e w' => e = .returned (.bool (decide (xs.take n = ys.take m))) ∧ ∃ q, w' = w.drewN q := Any.slices_Equal_string Tryz.lays193 b1 o1 n c b2 o2 m d xs ys w hx hy hbig hbig2 hc1 hc2
open Go.RowKit Go.Lib in
theorem Tryz.slices_Equal_string_empty (a1 a2 : Option Addr) (c m d : Nat) (w : World) (hbig2 : m ≤ 9223372036854775807) :
    Calls Tryz.prog 113 #[.slice a1 0 c, .slice a2 m d] w fun e w' => e = .returned (.bool (decide (m = 0))) ∧ w' = w := Any.slices_Equal_string_empty Tryz.lays193 a1 a2 c m d w hbig2
open Go.RowKit Go.Lib in
theorem Tryz.slices_Equal_string_lens (a1 a2 : Option Addr) (n c m d : Nat) (w : World) (hnm : n ≠ m) :
    Calls Tryz.prog 113 #[.slice a1 n c, .slice a2 m d] w fun e w' => e = .returned (.bool false) ∧ w' = w := Any.slices_Equal_string_lens Tryz.lays193 a1 a2 n c m d w hnm
def Tryz.keys7_ren : Go.Shelf.Ren := ⟨fun | 7 => 53 | 10 => 83 | n => n, fun | 23 => 64 | 26 => 9 | 3 => 9 | 28 => 94 | 0 => 0 | 27 => 93 | 33 => 104 | 4 => 4 | n => n, fun | n => n⟩
theorem Tryz.keys7 : Go.Proofs.SlLaysZ.n7 Tryz.prog Tryz.keys7_ren := {
  mixed := by kernel_rfl
  f7 := ⟨Tryz.f53.name, by decide, Tryz.func53.trans (congrArg some (by kernel_rfl))⟩
  f10 := ⟨Tryz.f83.name, by decide, Tryz.func83.trans (congrArg some (by kernel_rfl))⟩
  t0 := Tryz.underlying0
  a0 := Tryz.isAgg0
  z0 := Tryz.sizeOf0
  v0 := Tryz.zeroValue0
  t4 := Tryz.underlying4
  a4 := Tryz.isAgg4
  z4 := Tryz.sizeOf4
  v4 := Tryz.zeroValue4
  t23 := Tryz.underlying64
  a23 := Tryz.isAgg64
  z23 := Tryz.sizeOf64
  v23 := Tryz.zeroValue64
  t26 := Tryz.underlying9
  a26 := Tryz.isAgg9
  z26 := Tryz.sizeOf9
  v26 := Tryz.zeroValue9
  t27 := Tryz.underlying93
  a27 := Tryz.isAgg93
  z27 := Tryz.sizeOf93
  v27 := Tryz.zeroValue93
  t28 := Tryz.underlying94
  a28 := Tryz.isAgg94
  z28 := Tryz.sizeOf94
  v28 := Tryz.zeroValue94
  t33 := Tryz.underlying104
  a33 := Tryz.isAgg104
  z33 := Tryz.sizeOf104
  v33 := Tryz.zeroValue104 }
def Tryz.collect7_ren : Go.Shelf.Ren := ⟨fun | 8 => 81 | 11 => 102 | n => n, fun | 26 => 9 | 28 => 94 | 24 => 41 | 0 => 0 | 33 => 104 | 4 => 4 | n => n, fun | n => n⟩
theorem Tryz.collect7 : Go.Proofs.SlLaysZ.n8 Tryz.prog Tryz.collect7_ren := {
  mixed := by kernel_rfl
  f8 := ⟨Tryz.f81.name, by decide, Tryz.func81.trans (congrArg some (by kernel_rfl))⟩
  f11 := ⟨Tryz.f102.name, by decide, Tryz.func102.trans (congrArg some (by kernel_rfl))⟩
  t0 := Tryz.underlying0
  a0 := Tryz.isAgg0
  z0 := Tryz.sizeOf0
  v0 := Tryz.zeroValue0
  t24 := Tryz.underlying41
  a24 := Tryz.isAgg41
  z24 := Tryz.sizeOf41
  v24 := Tryz.zeroValue41
  t26 := Tryz.underlying9
  a26 := Tryz.isAgg9
  z26 := Tryz.sizeOf9
  v26 := Tryz.zeroValue9
  t28 := Tryz.underlying94
  a28 := Tryz.isAgg94
  z28 := Tryz.sizeOf94
  v28 := Tryz.zeroValue94
  i26 := by kernel_rfl }
end Go.Proofs

namespace Go.Proofs.YtoeepbmbfambcaaGreatDoor
open Go.RowKit

/-- The library's variable MaxLen holds a number. -/
def Len5 (w : World) : Prop := 0 < w.heap.size ∧ ∃ m, w.cell? ⟨0, 0, none⟩ = some (.int .i64 m)
theorem Len5.later {w W : World} (h : Len5 w) (hb : Below w.heap.size w W) : Len5 W :=
  ⟨Nat.lt_of_lt_of_le h.1 hb.size, by obtain ⟨m, hm⟩ := h.2; exact ⟨m, (hb.cell (p := ⟨0, 0, none⟩) h.1).trans hm⟩⟩

/-- What a label is asked for. -/
def lab5 (l : List UInt8) : Bool := labP5 both5 l

theorem dom_pieces (s : ByteArray) : dom5 both5 s.data.toList =
    ((Lib.splitB ⟨#[46]⟩ 0 (Lib.countB s ⟨#[46]⟩) s).all (fun x => lab5 x.data.toList) && decide (2 ≤ Lib.countB s ⟨#[46]⟩ + 1)) := by
  have h1 := Lib.splitB_data ⟨#[46]⟩ 0 (Lib.countB s ⟨#[46]⟩) s
  have h2 : Lib.splitK [46] 0 (Lib.count s.data.toList [46]) s.data.toList = parts5 46 s.data.toList := split_parts 46 _ _ (Nat.le_refl _)
  have h3 : (Lib.splitB ⟨#[46]⟩ 0 (Lib.countB s ⟨#[46]⟩) s).map (·.data.toList) = parts5 46 s.data.toList := h1.trans h2
  have h4 := Lib.splitB_all ⟨#[46]⟩ (by decide) 0 (Lib.countB s ⟨#[46]⟩) s rfl
  unfold dom5
  rw [← h3, ← h4]
  simp [List.all_map, Function.comp_def, lab5]

theorem piece_size (sep : ByteArray) : ∀ (k : Nat) (s : ByteArray) (x : ByteArray), x ∈ Lib.splitB sep 0 k s → x.size ≤ s.size
  | 0, s, x, h => by simp [Lib.splitB] at h; subst h; exact Nat.le_refl _
  | k + 1, s, x, h => by
    unfold Lib.splitB at h
    split at h
    · simp at h; subst h; exact Nat.le_refl _
    · rcases List.mem_cons.1 h with rfl | h
      · simp; exact Nat.min_le_right _ _
      · have := piece_size sep k _ x h
        have e : (s.extract ((Lib.indexB s sep).toNat + sep.size) s.size).size ≤ s.size := by simp
        omega

theorem piece_cell (w : World) (l : List ByteArray) (t : TypeId) (j : Nat) (hj : j < l.length) :
    (w.alloc (.cells (l.map Value.string).toArray t)).cell? ⟨w.heap.size, j, none⟩ = some (.string l[j]) := by
  rw [World.cell?_alloc_at _ _ _ _ rfl]
  simp [hj]

set_option maxRecDepth 100000 in
theorem domain_calls (s : ByteArray) (w : World) (hs : s.size ≤ 1000) (hm : Len5 w) :
    Calls Tryz.prog 116 #[.string s] w (Tells5 (dom5 both5 s.data.toList) w) := by
  rw [dom_pieces]
  have hle := Lib.countB_le ⟨#[46]⟩ (by decide) s.size s (Nat.le_refl _)
  have hlen := Lib.splitB_all ⟨#[46]⟩ (by decide) 0 (Lib.countB s ⟨#[46]⟩) s rfl
  obtain ⟨h0, m, hm⟩ := hm
  have HC := Lib.hid (Tryz.strings_Split s ⟨#[46]⟩ m w (by omega) hm (by decide))
  have HPS : Hid (∀ x ∈ Lib.splitB ⟨#[46]⟩ 0 (Lib.countB s ⟨#[46]⟩) s, x.size ≤ 1000) := fun x hx => Nat.le_trans (piece_size _ _ _ x hx) hs
  generalize Lib.splitB ⟨#[46]⟩ 0 (Lib.countB s ⟨#[46]⟩) s = ps at *
  generalize hcn : Lib.countB s ⟨#[46]⟩ + 1 = n at *
  have hn : n ≤ 1001 := by omega
  have hpc := piece_cell w ps 9
  have hb1 := below_alloc (Below.refl w.heap.size w) (.cells (ps.map Value.string).toArray 9)
  have hB : w.heap.size < (w.alloc (.cells (ps.map Value.string).toArray 9)).heap.size := by simp
  generalize w.alloc (.cells (ps.map Value.string).toArray 9) = w1 at *
  generalize hBB : w.heap.size = B at HC hpc hB
  have HPC := Lib.hid hpc
  have HB1 := Lib.hid hb1
  have HB := Lib.hid hB
  have HL := Lib.hid hlen
  obtain ⟨r, hr⟩ : ∃ r, r = (ps.all (fun x => lab5 x.data.toList) && decide (2 ≤ n)) := ⟨_, rfl⟩
  rw [← hr]
  have HR := Lib.hid hr
  clear hpc hb1 hB hlen hcn hm h0 hle hBB hr
  go_enter Tryz.func116, Tryz.ntmps116
  go_wp2_with fail
  with_reducible refine HC.out.mono ?_
  rintro e w1' ⟨rfl, rfl⟩
  clear HC
  go_wp2
  go_loopg [5, 10] n (fun gg _ s10 wr => ∃ k : Nat, k ≤ n ∧ n - k ≤ gg ∧ s10 = .int .i64 k ∧ Hid (Below w1'.heap.size w1' wr) ∧ Hid (∀ j (h : j < ps.length), j < k → lab5 ps[j].data.toList = true))
  case atStart => exact ⟨0, Nat.zero_le _, by omega, rfl, Below.refl _ _, fun j _ hj => absurd hj (Nat.not_lt_zero _)⟩
  case round =>
    obtain ⟨k, hk, hg, rfl, HW, A⟩ := hrel
    by_cases hlt : k < n
    · have hltz : (k : Int) < (n : Int) := by omega
      have hkl : k < ps.length := by rw [HL.out]; exact hlt
      have hcell := (HW.out.cell (p := ⟨B, k, none⟩) HB.out).trans (HPC.out k hkl)
      have hsz := HPS.out ps[k] (List.getElem_mem hkl)
      have HLB : Hid (lab5 ps[k].data.toList = (decide (1 ≤ ps[k].size) && ps[k].data.toList.all both5)) := by
        show labP5 both5 _ = _
        unfold labP5
        rw [size_list]
      have HM := Lib.hid (List.getElem_mem hkl)
      have HA2 : Hid (lab5 ps[k].data.toList = true → ∀ j (h : j < ps.length), j < k + 1 → lab5 ps[j].data.toList = true) := fun hl j h hj => by
        by_cases e : j = k
        · subst e; exact hl
        · exact A.out j h (by omega)
      generalize ps[k] = x at *
      have HF : Hid (lab5 x.data.toList = false → r = false) := fun hf => by
        rw [HR.out]
        have : ps.all (fun x => lab5 x.data.toList) = false := List.all_eq_false.2 ⟨x, HM.out, by rw [hf]; simp⟩
        rw [this]; rfl
      have HBW := Lib.hid (below_next HB1.out HW.out)
      by_cases h0 : x.size = 0
      · have hne : x.toList = [] := by
          have : x.toList.length = 0 := by rw [ByteArray.toList_eq, size_list]; exact h0
          exact List.eq_nil_of_length_eq_zero this
        have hrf : r = false := HF.out (by rw [HLB.out, h0]; rfl)
        subst hrf
        clear HF
        go_wp2
        go_ret
        exact ⟨rfl, HBW.out⟩
      · have hne : ¬ x.toList = [] := fun e => h0 (by rw [← size_list, ← ByteArray.toList_eq, e]; rfl)
        have hne2 : x.toList.isEmpty = false := by simpa using hne
        have hlb : lab5 x.data.toList = x.data.toList.all both5 := by rw [HLB.out, decide_eq_true (by omega : 1 ≤ x.size), Bool.true_and]
        have HD := Lib.hid (both_calls wr)
        have HV : Hid (∀ g lb w, Asks (.func (.func g) #[] lb) both5 w → Calls Tryz.prog 109 #[.string x, .func (.func g) #[] lb] w fun e w' => e = .returned (.bool (x.data.toList.all both5)) ∧ ∃ q, w' = w.drewN q) :=
          fun g lb w ha => every_calls x g lb both5 w (by omega) ha
        rw [← hlb] at HV
        have HW2 : Hid (∀ w2 q, Below wr.heap.size wr w2 → Below w1'.heap.size w1' (w2.drewN q)) := fun w2 q hb => below_drewN (below_next HW.out hb) q
        have HBW2 : Hid (∀ w2 q, Below wr.heap.size wr w2 → Below w.heap.size w (w2.drewN q)) := fun w2 q hb => below_drewN (below_next HBW.out hb) q
        clear HLB hlb h0 HW HBW
        cases hq : lab5 x.data.toList with
        | true =>
          rw [hq] at HV
          have HX := Lib.hid (HA2.out hq)
          clear hq HF HA2 HBW2
          go_wp2_with fail
          with_reducible refine HD.out.mono ?_
          rintro e w2 ⟨g, lb, rfl, ha, hb⟩
          have HE := Lib.hid (HV.out g lb w2 ha)
          have HB2 := Lib.hid hb
          clear ha hb HV HD
          go_wp2_with (go_at_call 109; with_reducible refine HE.out.mono ?_; rintro e w3 ⟨rfl, q, rfl⟩)
          go_roundg (n - (k + 1))
          case measure => omega
          case rel => exact ⟨k + 1, by omega, by omega, by go_num, HW2.out _ _ HB2.out, HX⟩
        | false =>
          rw [hq] at HV
          have hrf : r = false := HF.out hq
          subst hrf
          clear hq HF HA2 HW2
          go_wp2_with fail
          with_reducible refine HD.out.mono ?_
          rintro e w2 ⟨g, lb, rfl, ha, hb⟩
          have HE := Lib.hid (HV.out g lb w2 ha)
          have HB2 := Lib.hid hb
          clear ha hb HV HD
          go_wp2_with (go_at_call 109; with_reducible refine HE.out.mono ?_; rintro e w3 ⟨rfl, q, rfl⟩)
          go_ret
          exact ⟨rfl, HBW2.out _ _ HB2.out⟩
    · have hltz : ¬ (k : Int) < (n : Int) := by omega
      obtain rfl : k = n := by omega
      have hra : r = decide ((k : Int) ≥ 2) := by
        rw [HR.out]
        have : ps.all (fun x => lab5 x.data.toList) = true := by
          rw [List.all_eq_true]
          intro x hx
          obtain ⟨j, hj, rfl⟩ := List.getElem_of_mem hx
          exact A.out j hj (by have := HL.out; omega)
        rw [this, Bool.true_and]
        by_cases h2 : 2 ≤ k
        · rw [decide_eq_true h2, decide_eq_true (by omega)]
        · rw [decide_eq_false h2, decide_eq_false (by omega)]
      have HBW := Lib.hid (below_next HB1.out HW.out)
      have HRA := Lib.hid hra
      clear hra HW
      go_wp2
      go_ret
      exact ⟨by rw [HRA.out]; rfl, HBW.out⟩

/-- What stands ahead of the first @, what behind it, and whether there is one. -/
def cut5 (l : List UInt8) : List UInt8 × List UInt8 × Bool := Lib.cut (fold5 l) [64]
/-- An address. -/
def mail5 (l : List UInt8) : Bool := decide (l.length ≤ 20) && (cut5 l).2.2 && name5 (cut5 l).1 && dom5 both5 (cut5 l).2.1
/-- The address, folded, or nothing. -/
def mailT (l : List UInt8) : ByteArray := if mail5 l then ⟨(fold5 l).toArray⟩ else ⟨#[]⟩
/-- An address is told, or an error. -/
def Mails5 (b : Bool) (t : ByteArray) (w : World) (e : Ending) (w' : World) : Prop := e = .returned (.tuple #[.string t, .int .i64 (err5 b 11)]) ∧ Below w.heap.size w w'

theorem fold5_length (l : List UInt8) : (fold5 l).length = l.length := by simp [fold5]

theorem cut_lengths (l sep : List UInt8) : (Lib.cut l sep).1.length ≤ l.length ∧ (Lib.cut l sep).2.1.length ≤ l.length := by
  unfold Lib.cut
  split <;> simp
  exact Nat.min_le_right _ _

set_option maxRecDepth 100000 in
theorem mail_calls (s : ByteArray) (w : World) (hs : s.size ≤ 9223372036854775807) (hm : Len5 w) :
    Calls Tryz.prog 99 #[.string s] w (Mails5 (mail5 s.data.toList) (mailT s.data.toList) w) := by
  by_cases h20 : s.size ≤ 20
  · have hm1 : mail5 s.data.toList = ((cut5 s.data.toList).2.2 && name5 (cut5 s.data.toList).1 && dom5 both5 (cut5 s.data.toList).2.1) := by
      unfold mail5
      rw [size_list, decide_eq_true h20, Bool.true_and]
    have hfl : (fold5 s.data.toList).length = s.size := by rw [fold5_length, size_list]
    have hl := cut_lengths (fold5 s.data.toList) [64]
    rw [hfl] at hl
    have HF := Lib.hid (fold_calls s w hs)
    have HCT : Hid (∀ w, Len5 w → Calls Tryz.prog 115 #[.string ⟨(fold5 s.data.toList).toArray⟩, .string ⟨#[64]⟩] w fun e w' => e = .returned (.tuple #[.string ⟨(cut5 s.data.toList).1.toArray⟩, .string ⟨(cut5 s.data.toList).2.1.toArray⟩, .bool (cut5 s.data.toList).2.2]) ∧ ∃ n, w' = w.drewN n) := fun w h => by
      obtain ⟨m, hm⟩ := h.2
      have := Tryz.strings_Cut ⟨(fold5 s.data.toList).toArray⟩ ⟨#[64]⟩ m w (by show (fold5 s.data.toList).toArray.size < _; rw [List.size_toArray, hfl]; omega) hm
      exact this
    have HNM : Hid (∀ w, Calls Tryz.prog 95 #[.string ⟨(cut5 s.data.toList).1.toArray⟩] w (Tells5 (name5 (cut5 s.data.toList).1) w)) := fun w =>
      name_calls ⟨(cut5 s.data.toList).1.toArray⟩ w (by show (cut5 s.data.toList).1.toArray.size ≤ _; rw [List.size_toArray]; exact Nat.le_trans hl.1 (by omega))
    have HDM : Hid (∀ w, Len5 w → Calls Tryz.prog 116 #[.string ⟨(cut5 s.data.toList).2.1.toArray⟩] w (Tells5 (dom5 both5 (cut5 s.data.toList).2.1) w)) := fun w h =>
      domain_calls ⟨(cut5 s.data.toList).2.1.toArray⟩ w (by show (cut5 s.data.toList).2.1.toArray.size ≤ _; rw [List.size_toArray]; exact Nat.le_trans hl.2 (by omega)) h
    unfold mailT
    rw [hm1]
    have HM := Lib.hid hm
    clear hm hl hfl hm1
    generalize (⟨(fold5 s.data.toList).toArray⟩ : ByteArray) = f at *
    generalize cut5 s.data.toList = c at *
    obtain ⟨c1, c2, b⟩ := c
    simp only at HCT HNM HDM ⊢
    generalize (⟨c1.toArray⟩ : ByteArray) = t1 at *
    generalize (⟨c2.toArray⟩ : ByteArray) = t2 at *
    generalize name5 c1 = bn at *
    generalize dom5 both5 c2 = bd at *
    generalize hn : s.size = n at *
    have z : ¬ (n : Int) > 20 := by omega
    have z' : ¬ 20 < n := by omega
    obtain ⟨r, hr⟩ : ∃ r : Bool, r = (b && bn && bd) := ⟨_, rfl⟩
    obtain ⟨rt, hrt⟩ : ∃ rt : ByteArray, rt = if (b && bn && bd) = true then f else ⟨#[]⟩ := ⟨_, rfl⟩
    rw [← hrt, ← hr]
    have HR := Lib.hid hr
    have HRT := Lib.hid hrt
    clear hr hrt
    go_enter Tryz.func99, Tryz.ntmps99
    go_wp2_with fail
    with_reducible refine HF.out.mono ?_
    rintro e w1 ⟨rfl, hb⟩
    have HB1 := Lib.hid hb
    have HC1 := Lib.hid (HCT.out w1 (HM.out.later hb))
    have HM1 := Lib.hid (HM.out.later hb)
    clear hb HF HCT
    go_wp2_with fail
    with_reducible refine HC1.out.mono ?_
    rintro e w2 ⟨rfl, q, rfl⟩
    have HB2 := Lib.hid (below_drewN HB1.out q)
    have HM2 := Lib.hid (HM1.out.later (below_drewN (Below.refl w1.heap.size w1) q))
    generalize w1.drewN q = w2 at *
    clear HC1 HB1 HM1
    cases b with
    | false =>
      have hr : r = false := HR.out
      have hrt : rt = ⟨#[]⟩ := HRT.out
      subst hr; subst hrt
      go_wp2
      go_ret2; exact ⟨rfl, HB2.out⟩
    | true =>
      have HN2 := Lib.hid (HNM.out w2)
      cases bn with
      | false =>
        have hr : r = false := HR.out
        have hrt : rt = ⟨#[]⟩ := HRT.out
        subst hr; subst hrt
        go_wp2_with fail
        with_reducible refine HN2.out.mono ?_
        rintro e w3 ⟨rfl, hb⟩
        have HB3 := Lib.hid (below_next HB2.out hb)
        clear hb
        go_wp2
        go_ret2; exact ⟨rfl, HB3.out⟩
      | true =>
        go_wp2_with fail
        with_reducible refine HN2.out.mono ?_
        rintro e w3 ⟨rfl, hb⟩
        have HB3 := Lib.hid (below_next HB2.out hb)
        have HD3 := Lib.hid (HDM.out w3 (HM2.out.later hb))
        clear hb HN2 HDM HNM
        go_wp2_with fail
        with_reducible refine HD3.out.mono ?_
        rintro e w4 ⟨rfl, hb⟩
        have HB4 := Lib.hid (below_next HB3.out hb)
        clear hb
        cases bd with
        | false =>
          have hr : r = false := HR.out
          have hrt : rt = ⟨#[]⟩ := HRT.out
          subst hr; subst hrt
          go_wp2
          go_ret2; exact ⟨rfl, HB4.out⟩
        | true =>
          have hr : r = true := HR.out
          have hrt : rt = f := HRT.out
          subst hr; subst hrt
          go_wp2
          go_ret2; exact ⟨rfl, HB4.out⟩
  · have hm1 : mail5 s.data.toList = false := by
      unfold mail5
      rw [size_list, decide_eq_false h20]; rfl
    have hm2 : mailT s.data.toList = ⟨#[]⟩ := by unfold mailT; rw [hm1]; rfl
    rw [hm1, hm2]
    clear hm1 hm2 hm
    generalize hn : s.size = n at *
    have z : (n : Int) > 20 := by omega
    have z' : 20 < n := by omega
    go_enter Tryz.func99, Tryz.ntmps99
    go_wp2
    go_ret2; exact ⟨rfl, Below.refl _ _⟩

set_option maxRecDepth 100000 in
theorem compare_calls (a b : ByteArray) (w : World) :
    Calls Tryz.prog 54 #[.string a, .string b] w fun e w' => e = .returned (.int .i64 (Lib.compareBytes a.data.toList b.data.toList)) ∧ w' = w := by
  have HC := Lib.hid (Tryz.strings_Compare a b w)
  generalize Lib.compareBytes a.data.toList b.data.toList = r at *
  go_enter Tryz.func54, Tryz.ntmps54
  go_wp2_with fail
  with_reducible refine HC.out.mono ?_
  rintro e w1 ⟨rfl, rfl⟩
  go_wp2
  go_ret
  exact ⟨rfl, rfl⟩
end Go.Proofs.YtoeepbmbfambcaaGreatDoor

namespace Go.Proofs.YtoeepbmbfambcaaGreatDoor
open Go.RowKit

/-- The first error of several. -/
def first6 : List Int → Int
  | [] => 0
  | e :: l => if e = 0 then first6 l else e

set_option maxRecDepth 100000 in
theorem first6_calls (B n cap : Nat) (es : List Int) (w : World) (hl : n = es.length) (hn : n ≤ 1000) (hc : ∀ j (h : j < es.length), w.cell? ⟨B, j, none⟩ = some (.int .i64 es[j])) :
    Calls Tryz.prog 65 #[.slice (some ⟨B, 0, none⟩) n cap] w fun e w' => e = .returned (.int .i64 (first6 es)) ∧ w' = w := by
  have HC := Lib.hid hc
  have HL := Lib.hid hl
  clear hc hl
  generalize hr : first6 es = r
  have HR := Lib.hid hr
  clear hr
  go_enter Tryz.func65, Tryz.ntmps65
  go_wp2
  go_loopg [4, 7] n (fun gg _ s7 wr => ∃ k : Nat, k ≤ n ∧ n - k ≤ gg ∧ s7 = .int .i64 k ∧ wr = w ∧ Hid (first6 (es.drop k) = r))
  case atStart => exact ⟨0, Nat.zero_le _, by omega, rfl, rfl, HR⟩
  case round =>
    obtain ⟨k, hk, hg, rfl, rfl, A⟩ := hrel
    by_cases hlt : k < n
    · have hltz : (k : Int) < (n : Int) := by omega
      have hkl : k < es.length := HL.out ▸ hlt
      have hcell := HC.out k hkl
      have hA : (if es[k] = 0 then first6 (es.drop (k + 1)) else es[k]) = r := by
        have := A.out
        rw [List.drop_eq_getElem_cons hkl] at this
        exact this
      generalize es[k] = x at *
      by_cases h0 : x = 0
      · rw [if_pos h0] at hA
        have HA := Lib.hid hA
        clear hA A
        subst h0
        go_wp2
        go_roundg (n - (k + 1))
        case measure => omega
        case rel => exact ⟨k + 1, by omega, by omega, by go_num, rfl, HA⟩
      · rw [if_neg h0] at hA
        subst hA
        clear A
        go_wp2
        go_ret
        exact ⟨rfl, rfl⟩
    · have hltz : ¬ (k : Int) < (n : Int) := by omega
      have hA : (0 : Int) = r := by
        have := A.out
        rw [List.drop_eq_nil_of_le (by have := HL.out; omega)] at this
        exact this
      subst hA
      clear A
      go_wp2
      go_ret
      exact ⟨rfl, rfl⟩

set_option maxRecDepth 100000 in
theorem unless6_calls (b : Bool) (n : Int) (w : World) : Calls Tryz.prog 94 #[.bool b, .int .i64 n] w fun e w' => e = .returned (.int .i64 (err5 b n)) ∧ w' = w := by
  cases b with
  | true =>
    show Calls _ _ _ _ fun e w' => e = .returned (.int .i64 0) ∧ w' = w
    go_enter Tryz.func94, Tryz.ntmps94
    go_wp2
    go_ret
    exact ⟨rfl, rfl⟩
  | false =>
    show Calls _ _ _ _ fun e w' => e = .returned (.int .i64 n) ∧ w' = w
    go_enter Tryz.func94, Tryz.ntmps94
    go_wp2
    go_ret
    exact ⟨rfl, rfl⟩

/-- A schema that there is. -/
def know6 (s : Int) : Bool := decide (s = 1) || decide (s = 2)

set_option maxRecDepth 100000 in
theorem known6_calls (s : Int) (w : World) : Calls Tryz.prog 66 #[.int .i64 s] w fun e w' => e = .returned (.int .i64 (err5 (know6 s) 6)) ∧ w' = w := by
  have HU : Hid (∀ b, Calls Tryz.prog 94 #[.bool b, .int .i64 6] w fun e w' => e = .returned (.int .i64 (err5 b 6)) ∧ w' = w) := fun b => unless6_calls b 6 w
  obtain ⟨r, hr⟩ : ∃ r, r = err5 (know6 s) 6 := ⟨_, rfl⟩
  rw [← hr]
  by_cases h1 : s = 1
  · subst h1
    have HU1 : Hid (Calls Tryz.prog 94 #[.bool true, .int .i64 6] w fun e w' => e = .returned (.int .i64 r) ∧ w' = w) := by
      have := HU.out true
      rw [hr]; exact this
    clear HU hr
    go_enter Tryz.func66, Tryz.ntmps66
    go_wp2_with fail
    with_reducible refine HU1.out.mono ?_
    rintro e w1 ⟨rfl, rfl⟩
    go_wp2
    go_ret
    exact ⟨rfl, rfl⟩
  · by_cases h2 : s = 2
    · subst h2
      have HU1 : Hid (Calls Tryz.prog 94 #[.bool true, .int .i64 6] w fun e w' => e = .returned (.int .i64 r) ∧ w' = w) := by
        have := HU.out true
        rw [hr]; exact this
      clear HU hr h1
      go_enter Tryz.func66, Tryz.ntmps66
      go_wp2_with fail
      with_reducible refine HU1.out.mono ?_
      rintro e w1 ⟨rfl, rfl⟩
      go_wp2
      go_ret
      exact ⟨rfl, rfl⟩
    · have HU1 : Hid (Calls Tryz.prog 94 #[.bool false, .int .i64 6] w fun e w' => e = .returned (.int .i64 r) ∧ w' = w) := by
        have := HU.out false
        rw [hr]
        have e : know6 s = false := by simp [know6, h1, h2]
        rw [e]; exact this
      clear HU hr
      have d1 : (s == 1) = false := by simpa using h1
      have d2 : (s == 2) = false := by simpa using h2
      go_enter Tryz.func66, Tryz.ntmps66
      go_wp2_with fail
      with_reducible refine HU1.out.mono ?_
      rintro e w1 ⟨rfl, rfl⟩
      go_wp2
      go_ret
      exact ⟨rfl, rfl⟩

set_option maxRecDepth 100000 in
theorem few6_calls (A : Option Addr) (n c : Nat) (w : World) : Calls Tryz.prog 71 #[.slice A n c] w fun e w' => e = .returned (.int .i64 (err5 (decide (n ≤ 6)) 7)) ∧ w' = w := by
  by_cases h : n ≤ 6
  · have HU := Lib.hid (unless6_calls true 7 w)
    rw [decide_eq_true h]
    have z : (n : Int) ≤ 6 := by omega
    generalize err5 true 7 = r at *
    go_enter Tryz.func71, Tryz.ntmps71
    go_wp2_with fail
    with_reducible refine HU.out.mono ?_
    rintro e w1 ⟨rfl, rfl⟩
    go_wp2
    go_ret
    exact ⟨rfl, rfl⟩
  · have HU := Lib.hid (unless6_calls false 7 w)
    rw [decide_eq_false h]
    have z : ¬ (n : Int) ≤ 6 := by omega
    generalize err5 false 7 = r at *
    go_enter Tryz.func71, Tryz.ntmps71
    go_wp2_with fail
    with_reducible refine HU.out.mono ?_
    rintro e w1 ⟨rfl, rfl⟩
    go_wp2
    go_ret
    exact ⟨rfl, rfl⟩

theorem RdS.at6 {w : World} {A : Option Addr} {ss : List ByteArray} (h : RdS w A ss) (k : Nat) (hk : k < ss.length) :
    ∃ (b off : Nat), A = some ⟨b, off, none⟩ ∧ w.cell? ⟨b, off + k, none⟩ = some (.string ss[k]) := by
  obtain ⟨b, off, rfl, _, hc⟩ := h (by intro e; subst e; simp at hk)
  exact ⟨b, off, rfl, hc k hk⟩
theorem RdS.below {w w' : World} {A : Option Addr} {ss : List ByteArray} (h : RdS w A ss) (hb : Below w.heap.size w w') : RdS w' A ss := h.turns (Turns.of_below hb (fun _ => False)) (fun _ _ _ f => f)

/-- All are names. -/
def names6 (ss : List ByteArray) : Bool := ss.all fun s => name5 s.data.toList

set_option maxRecDepth 100000 in
theorem names6_calls (A : Option Addr) (n c : Nat) (ss : List ByteArray) (w : World) (hl : n = ss.length) (hr : RdS w A ss) (hm : n ≤ 9223372036854775807) (hs : ∀ s ∈ ss, s.size ≤ 9223372036854775807) :
    Calls Tryz.prog 72 #[.slice A n c] w (Errs5 (err5 (names6 ss) 10) w) := by
  have HR := Lib.hid hr
  have HL := Lib.hid hl
  have HS := Lib.hid hs
  clear hr hl hs
  obtain ⟨r, hr⟩ : ∃ r, r = err5 (names6 ss) 10 := ⟨_, rfl⟩
  rw [← hr]
  have HE := Lib.hid hr
  clear hr
  go_enter Tryz.func72, Tryz.ntmps72
  go_wp2
  go_loopg [4, 5, 8] n (fun gg _ _ s8 wr => ∃ k : Nat, k ≤ n ∧ n - k ≤ gg ∧ s8 = .int .i64 k ∧ Hid (Below w.heap.size w wr) ∧ Hid (∀ j (h : j < ss.length), j < k → name5 ss[j].data.toList = true))
  case atStart => exact ⟨0, Nat.zero_le _, by omega, rfl, Below.refl _ _, fun j _ hj => absurd hj (Nat.not_lt_zero _)⟩
  case round =>
    obtain ⟨k, hk, hg, rfl, HW, A⟩ := hrel
    by_cases hlt : k < n
    · have hltz : (k : Int) < (n : Int) := by omega
      have hkl : k < ss.length := HL.out ▸ hlt
      obtain ⟨b, off, rfl, hcell⟩ := (HR.out.below HW.out).at6 k hkl
      have HN := Lib.hid (Name_calls ss[k] wr (HS.out _ (List.getElem_mem hkl)))
      have HX : Hid (name5 ss[k].data.toList = true → ∀ j (h : j < ss.length), j < k + 1 → name5 ss[j].data.toList = true) := fun hq j h hj => by
        by_cases e : j = k
        · subst e; exact hq
        · exact A.out j h (by omega)
      have HF : Hid (name5 ss[k].data.toList = false → r = 10) := fun hf => by
        rw [HE.out]
        have : names6 ss = false := List.all_eq_false.2 ⟨ss[k], List.getElem_mem hkl, by rw [hf]; simp⟩
        rw [this]; rfl
      cases hq : name5 ss[k].data.toList with
      | true =>
        rw [hq] at HN
        have HY := Lib.hid (HX.out hq)
        clear hq HX HF A
        generalize ss[k] = x at *
        have HN2 : Hid (Calls Tryz.prog 67 #[.string x] wr (Errs5 0 wr)) := HN
        clear HN
        go_wp2_with (go_at_call 67; (with_reducible refine HN2.out.mono ?_); rintro e w3 ⟨rfl, hb⟩; have HB3 := Lib.hid (below_next HW.out hb); clear hb)
        go_roundg (n - (k + 1))
        case measure => omega
        case rel => exact ⟨k + 1, by omega, by omega, by go_num, HB3, HY⟩
      | false =>
        rw [hq] at HN
        have hr10 : r = 10 := HF.out hq
        subst hr10
        clear hq HX HF A
        generalize ss[k] = x at *
        have HN2 : Hid (Calls Tryz.prog 67 #[.string x] wr (Errs5 10 wr)) := HN
        clear HN
        go_wp2_with (go_at_call 67; (with_reducible refine HN2.out.mono ?_); rintro e w3 ⟨rfl, hb⟩; have HB3 := Lib.hid (below_next HW.out hb); clear hb)
        go_ret
        exact ⟨rfl, HB3.out⟩
    · have hltz : ¬ (k : Int) < (n : Int) := by omega
      obtain rfl : k = n := by omega
      have hr0 : r = 0 := by
        rw [HE.out]
        have : names6 ss = true := by
          unfold names6
          rw [List.all_eq_true]
          intro x hx
          obtain ⟨j, hj, rfl⟩ := List.getElem_of_mem hx
          exact A.out j hj (by have := HL.out; omega)
        rw [this]; rfl
      subst hr0
      clear A
      go_wp2
      go_ret
      exact ⟨rfl, HW.out⟩
end Go.Proofs.YtoeepbmbfambcaaGreatDoor

namespace Go.Proofs.YtoeepbmbfambcaaGreatDoor
open Go.RowKit

/-- The bytes of two texts stand in their order, the first one ahead. -/
def ahead6 (a b : ByteArray) : Bool := decide (Lib.compareBytes a.data.toList b.data.toList < 0)
/-- Each stands above the one ahead. -/
def rise6 : List ByteArray → Bool
  | [] => true
  | [_] => true
  | a :: b :: l => ahead6 a b && rise6 (b :: l)

theorem rise6_bad : ∀ (ss : List ByteArray) (k : Nat) (h : k + 1 < ss.length), ahead6 ss[k] ss[k + 1] = false → rise6 ss = false
  | [], k, h, _ => by simp at h
  | [_], k, h, _ => by simp at h
  | a :: b :: l, 0, h, hq => by
    have hq' : ahead6 a b = false := hq
    show (ahead6 a b && rise6 (b :: l)) = false
    rw [hq']; rfl
  | a :: b :: l, k + 1, h, hq => by
    show (ahead6 a b && rise6 (b :: l)) = false
    rw [rise6_bad (b :: l) k (by simpa using h) hq]
    simp
theorem rise6_all : ∀ (ss : List ByteArray), (∀ k (h : k + 1 < ss.length), ahead6 ss[k] ss[k + 1] = true) → rise6 ss = true
  | [], _ => rfl
  | [_], _ => rfl
  | a :: b :: l, hq => by
    show (ahead6 a b && rise6 (b :: l)) = true
    have h0 : ahead6 a b = true := hq 0 (by simp)
    rw [h0, rise6_all (b :: l) (fun k h => hq (k + 1) (by simpa using h))]
    rfl

set_option maxRecDepth 100000 in
theorem rising6_calls (Aa : Option Addr) (n c : Nat) (ss : List ByteArray) (w : World) (hl : n = ss.length) (hr : RdS w Aa ss) (hm : n ≤ 9223372036854775807) :
    Calls Tryz.prog 73 #[.slice Aa n c] w fun e w' => e = .returned (.int .i64 (err5 (rise6 ss) 9)) ∧ ∃ q, w' = w.drewN q := by
  have HR := Lib.hid hr
  have HL := Lib.hid hl
  clear hr hl
  obtain ⟨r, hr⟩ : ∃ r, r = err5 (rise6 ss) 9 := ⟨_, rfl⟩
  rw [← hr]
  have HE := Lib.hid hr
  clear hr
  go_enter Tryz.func73, Tryz.ntmps73
  go_wp2
  go_loopg [3] n (fun gg s3 wr => ∃ k : Nat, (k ≤ n ∨ k = 1) ∧ 1 ≤ k ∧ n - k ≤ gg ∧ s3 = .int .i64 k ∧ (∃ q, wr = w.drewN q) ∧ Hid (∀ j (h : j + 1 < ss.length), j + 1 < k → ahead6 ss[j] ss[j + 1] = true))
  case atStart => exact ⟨1, .inr rfl, Nat.le_refl _, by omega, rfl, ⟨0, rfl⟩, fun j _ hj => absurd hj (by omega)⟩
  case round =>
    obtain ⟨k, hk, hk1, hg, rfl, ⟨q, hq⟩, A⟩ := hrel
    have HQ := Lib.hid hq
    have HW : Hid (RdS wr Aa ss) := by rw [hq]; exact HR.out.below (below_drewN (Below.refl w.heap.size w) q)
    clear hq
    by_cases hlt : k < n
    · have hltz : (k : Int) < (n : Int) := by omega
      have hkl : k < ss.length := HL.out ▸ hlt
      have hkl' : k - 1 < ss.length := by omega
      obtain ⟨b, off, hA, hcell⟩ := HW.out.at6 k hkl
      obtain ⟨b', off', hA', hcell'⟩ := HW.out.at6 (k - 1) hkl'
      obtain ⟨rfl, rfl⟩ : b' = b ∧ off' = off := by
        rw [hA] at hA'
        simp at hA'
        exact ⟨hA'.1.symm, hA'.2.symm⟩
      subst hA
      have zk : (k : Int) - 1 = ((k - 1 : Nat) : Int) := by omega
      have z1 : ((k - 1 : Nat) : Int) < (n : Int) := by omega
      have hcw : ∀ i, (wr.drewN i).cell? ⟨b', off' + k, none⟩ = some (.string ss[k]) := fun i => hcell
      have hcw' : ∀ i, (wr.drewN i).cell? ⟨b', off' + (k - 1), none⟩ = some (.string ss[k - 1]) := fun i => hcell'
      have HX : Hid (ahead6 ss[k - 1] ss[k] = true → ∀ j (h : j + 1 < ss.length), j + 1 < k + 1 → ahead6 ss[j] ss[j + 1] = true) := fun hq j h hj => by
        by_cases e : j = k - 1
        · subst e
          have e2 : k - 1 + 1 = k := by omega
          have : ss[k - 1 + 1] = ss[k] := by congr 1
          rw [this]; exact hq
        · exact A.out j h (by omega)
      have HF : Hid (ahead6 ss[k - 1] ss[k] = false → r = 9) := fun hf => by
        rw [HE.out]
        have : rise6 ss = false := rise6_bad ss (k - 1) (by omega) (by
          have : ss[k - 1 + 1] = ss[k] := by congr 1; omega
          rw [this]; exact hf)
        rw [this]; rfl
      have HC : Hid (∀ W, Calls Tryz.prog 54 #[.string ss[k - 1], .string ss[k]] W fun e w' => e = .returned (.int .i64 (Lib.compareBytes ss[k - 1].data.toList ss[k].data.toList)) ∧ w' = W) := fun W => compare_calls _ _ W
      have HD : Hid (ahead6 ss[k - 1] ss[k] = decide (Lib.compareBytes ss[k - 1].data.toList ss[k].data.toList < 0)) := rfl
      generalize Lib.compareBytes ss[k - 1].data.toList ss[k].data.toList = cm at *
      generalize ahead6 ss[k - 1] ss[k] = q6 at *
      generalize ss[k] = x at *
      generalize ss[k - 1] = y at *
      clear A hcell hcell'
      have hwr : IntKind.i64.wrap ((k - 1 : Nat) : Int) = ((k - 1 : Nat) : Int) := IntWalk.i64_in _ (by omega)
      by_cases hc : cm < 0
      · have hq : q6 = true := by rw [HD.out, decide_eq_true hc]
        have HY := Lib.hid (HX.out hq)
        have hcd : decide (cm ≥ 0) = false := decide_eq_false (by omega)
        have hc2 : ¬ cm ≥ 0 := by omega
        have hc3 : ¬ 0 ≤ cm := by omega
        clear HX HF HD hq
        go_wp2
        go_quiet (first | (go_at_call 54; exact Calls.quiet_of_same (HC.out _)))
        go_wp2
        go_roundg (n - (k + 1))
        case measure => omega
        case rel => exact ⟨k + 1, .inl (by omega), by omega, by omega, by go_num, ⟨q + nq, by rw [HQ.out, World.drewN_drewN]⟩, HY⟩
      · have hq : q6 = false := by rw [HD.out, decide_eq_false hc]
        have hr9 : r = 9 := HF.out hq
        subst hr9
        have hc2 : cm ≥ 0 := by omega
        have hc3 : 0 ≤ cm := by omega
        clear HX HF HD hq
        go_wp2
        go_quiet (first | (go_at_call 54; exact Calls.quiet_of_same (HC.out _)))
        go_wp2
        go_ret
        exact ⟨rfl, q + nq, by rw [HQ.out, World.drewN_drewN]⟩
    · have hltz : ¬ (k : Int) < (n : Int) := by omega
      have hr0 : r = 0 := by
        rw [HE.out]
        have : rise6 ss = true := rise6_all ss (fun j h => A.out j h (by have := HL.out; omega))
        rw [this]; rfl
      subst hr0
      clear A
      go_wp2
      go_ret
      exact ⟨rfl, q, HQ.out⟩

/-- An address as it is kept, or none. -/
def fold6 (m : ByteArray) : Bool := decide (m.size = 0) || (mail5 m.data.toList && decide (mailT m.data.toList = m))

theorem toList_ne6 {s t : ByteArray} (h : s ≠ t) : s.toList ≠ t.toList := by
  intro e
  apply h
  rw [ByteArray.toList_eq, ByteArray.toList_eq] at e
  exact ByteArray.ext (Array.toList_inj.1 e)

theorem two_cells (w : World) (t : TypeId) (x y : Int) (j : Nat) (h : j < [x, y].length) : (w.alloc (.cells #[.int .i64 x, .int .i64 y] t)).cell? ⟨w.heap.size, j, none⟩ = some (.int .i64 [x, y][j]) := by
  rw [World.cell?_alloc_at _ _ _ _ rfl]
  match j, h with
  | 0, _ => rfl
  | 1, _ => rfl

set_option maxRecDepth 100000 in
theorem folded6_calls (m : ByteArray) (w : World) (hs : m.size ≤ 9223372036854775807) (hm : Len5 w) :
    Calls Tryz.prog 70 #[.string m] w (Errs5 (err5 (fold6 m) 11) w) := by
  by_cases h0 : m.size = 0
  · obtain rfl : m = ⟨#[]⟩ := by
      obtain ⟨d⟩ := m
      obtain rfl : d = #[] := Array.eq_empty_of_size_eq_zero h0
      rfl
    show Calls _ _ _ _ (Errs5 0 w)
    go_enter Tryz.func70, Tryz.ntmps70
    go_wp2
    go_ret
    exact ⟨rfl, Below.refl _ _⟩
  · have hne : ¬ m.toList = [] := fun e => h0 (by rw [← size_list, ← ByteArray.toList_eq, e]; rfl)
    have hne2 : m.toList.isEmpty = false := by simpa using hne
    have HM := Lib.hid (mail_calls m w hs hm)
    have hf : fold6 m = (mail5 m.data.toList && decide (mailT m.data.toList = m)) := by
      unfold fold6
      rw [decide_eq_false h0, Bool.false_or]
    rw [hf]
    clear hf hm hs
    generalize mail5 m.data.toList = b at *
    generalize mailT m.data.toList = t at *
    obtain ⟨r, hr⟩ : ∃ r, r = err5 (b && decide (t = m)) 11 := ⟨_, rfl⟩
    rw [← hr]
    have HU : Hid (∀ b w, Calls Tryz.prog 94 #[.bool b, .int .i64 11] w fun e w' => e = .returned (.int .i64 (err5 b 11)) ∧ w' = w) := fun b w => unless6_calls b 11 w
    have HF : Hid (∀ (x y : Int) (W : World), Calls Tryz.prog 65 #[.slice (some ⟨W.heap.size, 0, none⟩) 2 2] (W.alloc (.cells #[.int .i64 x, .int .i64 y] 29)) fun e w' => e = .returned (.int .i64 (first6 [x, y])) ∧ w' = W.alloc (.cells #[.int .i64 x, .int .i64 y] 29)) :=
      fun x y W => first6_calls _ 2 2 [x, y] _ rfl (by omega) (two_cells W _ x y)
    have HR : Hid (∀ c : Bool, c = decide (t = m) → r = first6 [err5 b 11, err5 c 11]) := fun c hc => by
      rw [hr, hc]
      cases b <;> by_cases h : t = m <;> simp [h, err5, first6]
    clear hr h0
    by_cases h : t = m
    · have hr := HR.out true (by simp [h])
      have HR2 := Lib.hid hr
      subst h
      clear hr HR
      go_enter Tryz.func70, Tryz.ntmps70
      go_wp2_with fail
      with_reducible refine HM.out.mono ?_
      rintro e w1 ⟨rfl, hb⟩
      have HB := Lib.hid hb
      clear hb HM
      go_wp2_with fail
      with_reducible refine (HU.out true _).mono ?_
      rintro e w2 ⟨rfl, rfl⟩
      generalize err5 true 11 = e2 at *
      go_wp2_with fail
      with_reducible refine (HF.out (err5 b 11) e2 _).mono ?_
      rintro e w3 ⟨rfl, rfl⟩
      have hr := HR2.out
      rw [← hr]
      clear hr HR2
      go_wp2
      go_ret
      exact ⟨rfl, below_alloc HB.out _⟩
    · have hr := HR.out false (by simp [h])
      have HR2 := Lib.hid hr
      have htn := toList_ne6 h
      have htn2 : (t.toList == m.toList) = false := by simpa using htn
      clear hr HR h
      go_enter Tryz.func70, Tryz.ntmps70
      go_wp2_with fail
      with_reducible refine HM.out.mono ?_
      rintro e w1 ⟨rfl, hb⟩
      have HB := Lib.hid hb
      clear hb HM
      go_wp2_with fail
      with_reducible refine (HU.out false _).mono ?_
      rintro e w2 ⟨rfl, rfl⟩
      generalize err5 false 11 = e2 at *
      go_wp2_with fail
      with_reducible refine (HF.out (err5 b 11) e2 _).mono ?_
      rintro e w3 ⟨rfl, rfl⟩
      have hr := HR2.out
      rw [← hr]
      clear hr HR2
      go_wp2
      go_ret
      exact ⟨rfl, below_alloc HB.out _⟩
end Go.Proofs.YtoeepbmbfambcaaGreatDoor

namespace Go.Proofs.YtoeepbmbfambcaaGreatDoor
open Go.RowKit

/-- Values put into slots, one behind the other. -/
def putL : List (Option Tmp) → (Nat → Value) → Nat → Act → Act
  | [], _, _, a => a
  | d :: ds, x, k, a => putL ds x (k + 1) (a.put d (x k))
/-- No slot stands twice. -/
def apartL : List (Option Tmp) → Bool
  | [] => true
  | none :: r => apartL r
  | some d :: r => !(r.contains (some d)) && apartL r
def upd (x : Nat → Value) (i : Nat) (v : Value) : Nat → Value := fun j => if j = i then v else x j

theorem put_put (a : Act) (d : Option Tmp) (u v : Value) : (a.put d u).put d v = a.put d v := by
  cases d with
  | none => rfl
  | some d => simp [Act.put]
theorem putL_put {ds : List (Option Tmp)} {x : Nat → Value} {d : Option Tmp} {v : Value} : ∀ {k : Nat} {a : Act}, (∀ t, d = some t → some t ∉ ds) → (putL ds x k a).put d v = putL ds x k (a.put d v) := by
  induction ds with
  | nil => intro k a _; rfl
  | cons e ds ih =>
    intro k a h
    show (putL ds x (k + 1) (a.put e (x k))).put d v = putL ds x (k + 1) ((a.put d v).put e (x k))
    rw [ih (fun t ht hm => h t ht (List.mem_cons_of_mem _ hm)), Act.put_comm]
    intro t he hd
    exact h t hd (he ▸ List.mem_cons_self ..)
theorem putL_congr {ds : List (Option Tmp)} {x y : Nat → Value} : ∀ {k : Nat} {a : Act}, (∀ j, k ≤ j → x j = y j) → putL ds x k a = putL ds y k a := by
  induction ds with
  | nil => intro _ _ _; rfl
  | cons d ds ih =>
    intro k a h
    show putL ds x (k + 1) (a.put d (x k)) = putL ds y (k + 1) (a.put d (y k))
    rw [h k (Nat.le_refl _), ih (fun j hj => h j (by omega))]
theorem putL_upd {ds : List (Option Tmp)} {x : Nat → Value} {v : Value} : ∀ {i k : Nat} {a : Act} {d : Option Tmp}, apartL ds = true → ds[i]? = some d → (putL ds x k a).put d v = putL ds (upd x (k + i) v) k a := by
  induction ds with
  | nil => intro i k a d _ h; simp at h
  | cons e ds ih =>
    intro i k a d hap hi
    have hap' : apartL ds = true ∧ ∀ t, e = some t → some t ∉ ds := by
      cases e with
      | none => exact ⟨hap, fun t h => by cases h⟩
      | some t =>
        simp only [apartL, Bool.and_eq_true, Bool.not_eq_true', List.contains_eq_mem, decide_eq_false_iff_not] at hap
        exact ⟨hap.2, fun u hu => by injection hu with hu; subst hu; exact hap.1⟩
    cases i with
    | zero =>
      have he : e = d := by simpa using hi
      subst he
      show (putL ds x (k + 1) (a.put e (x k))).put e v = putL ds (upd x k v) (k + 1) (a.put e (upd x k v k))
      rw [putL_put hap'.2, put_put, show upd x k v k = v from if_pos rfl]
      exact putL_congr (fun j hj => (if_neg (by omega)).symm)
    | succ i =>
      show (putL ds x (k + 1) (a.put e (x k))).put d v = putL ds (upd x (k + (i + 1)) v) (k + 1) (a.put e (upd x (k + (i + 1)) v k))
      rw [ih hap'.1 (by simpa using hi), show upd x (k + (i + 1)) v k = x k from if_neg (by omega), show k + 1 + i = k + (i + 1) by omega]

section
variable {P : Program} {ops : Array Oper} {Q : Exit → Act → World → Prop} {md : Region.Mode}

theorem all_listed {listed : Array Bool} (hsz : listed.size = ops.size) (back : ∀ (i : Nat) (o : Oper), ops[i]? = some o → ∀ e ∈ o.after, e.on < i) (h : Region.ready md ops listed = []) :
    ∀ j, j < ops.size → listed.getD j false = true := by
  intro j
  induction j using Nat.strongRecOn with
  | _ j ih =>
    intro hj
    cases hl : listed.getD j false with
    | true => rfl
    | false =>
      exfalso
      have hm : j ∈ Region.ready md ops listed := by
        rw [mem_ready]
        refine ⟨?_, ops[j], Array.getElem?_eq_getElem hj, fun e he _ => ih e.on (back j _ (Array.getElem?_eq_getElem hj) e he) (Nat.lt_trans (back j _ (Array.getElem?_eq_getElem hj) e he) hj)⟩
        have hlt : j < listed.size := by omega
        simpa [Array.getD_eq_getD_getElem?, Array.getElem?_eq_getElem hlt] using hl
      rw [h] at hm
      cases hm

/-- What is listed stands on what is listed. -/
def Closed (md : Region.Mode) (ops : Array Oper) (L : Nat → Bool) : Prop := ∀ (j : Nat) (o : Oper), ops[j]? = some o → L j = true → ∀ d, (o.after.toList.any fun e => Region.binds md e && e.on == d) = true → L d = true
def updL (L : Nat → Bool) (i : Nat) : Nat → Bool := fun j => if j = i then true else L j

/-- THE REGION BY WHAT EACH OPERATION MAKES. 'Y j v w': v is what operation j was to make, in w; 'G L w': what is known of the world where the operations of L have been carried out. -/
theorem wpAny_inv (a : Act) (Y : Nat → Value → World → Prop) (G : (Nat → Bool) → World → Prop) (hap : apartL (ops.toList.map (·.dst)) = true)
    (back : ∀ (i : Nat) (o : Oper), ops[i]? = some o → ∀ e ∈ o.after, e.on < i)
    (step : ∀ (i : Nat) (o : Oper), ops[i]? = some o → ∀ (L : Nat → Bool) (x : Nat → Value) (w : World), L i = false → (∀ d, (o.after.toList.any fun e => Region.binds md e && e.on == d) = true → L d = true) → Closed md ops L → G L w → (∀ j, L j = true → Y j (x j) w) →
      ∀ K : Act → World → Prop, (∀ v w', Y i v w' → G (updL L i) w' → (∀ j, L j = true → Y j (x j) w → Y j (x j) w') → K ((putL (ops.toList.map (·.dst)) x 0 a).put o.dst v) w') →
        if Region.wanted o (yielded ops (putL (ops.toList.map (·.dst)) x 0 a).tmps) = true then Oper.wp P o (putL (ops.toList.map (·.dst)) x 0 a) w K Q else K ((putL (ops.toList.map (·.dst)) x 0 a).put o.dst undef) w)
    (fin : ∀ (L : Nat → Bool) (x : Nat → Value) (w : World), (∀ j, j < ops.size → L j = true) → G L w → (∀ j, j < ops.size → Y j (x j) w) → Q .normal (putL (ops.toList.map (·.dst)) x 0 a) w) :
    ∀ (fuel : Nat) (listed : Array Bool) (x : Nat → Value) (w : World), listed.size = ops.size → listed.toList.count false ≤ fuel → Closed md ops (fun j => listed.getD j false) → G (fun j => listed.getD j false) w → (∀ j, listed.getD j false = true → Y j (x j) w) →
      wpAny P md ops Q fuel listed (putL (ops.toList.map (·.dst)) x 0 a) w := by
  intro fuel
  induction fuel with
  | zero =>
    intro listed x w hsz hc hcl hG hY
    have hall : ∀ j, j < ops.size → listed.getD j false = true := by
      intro j hj
      cases hl : listed.getD j false with
      | true => rfl
      | false =>
        exfalso
        have hlt : j < listed.size := by omega
        have : false ∈ listed.toList := by
          rw [List.mem_iff_getElem]
          exact ⟨j, by simpa using hlt, by simpa [Array.getD_eq_getD_getElem?, Array.getElem?_eq_getElem hlt] using hl⟩
        have := List.count_pos_iff.2 this
        omega
    refine ⟨?_, fin _ x w hall hG (fun j hj => hY j (hall j hj))⟩
    rw [List.eq_nil_iff_forall_not_mem]
    intro j hj
    rw [mem_ready] at hj
    obtain ⟨h0, o, ho, _⟩ := hj
    have hj' := (Array.getElem?_eq_some_iff.1 ho).1
    have := hall j hj'
    have hlt : j < listed.size := by omega
    simp [Array.getD_eq_getD_getElem?, Array.getElem?_eq_getElem hlt] at h0 this
    rw [h0] at this
    cases this
  | succ fuel ih =>
    intro listed x w hsz hc hcl hG hY
    refine ⟨fun hr => fin _ x w (all_listed hsz back hr) hG (fun j hj => hY j (all_listed hsz back hr j hj)), fun i hi => ?_⟩
    have hi' := hi
    rw [mem_ready] at hi'
    obtain ⟨h0, o, ho, hdep⟩ := hi'
    have hlt : i < listed.size := by have := (Array.getElem?_eq_some_iff.1 ho).1; omega
    have hfalse : listed[i] = false := by simpa [Array.getD_eq_getD_getElem?, Array.getElem?_eq_getElem hlt] using h0
    have hdeps : ∀ d, (o.after.toList.any fun e => Region.binds md e && e.on == d) = true → listed.getD d false = true := by
      intro j hj
      rw [List.any_eq_true] at hj
      obtain ⟨e, he, hb⟩ := hj
      simp only [Bool.and_eq_true, beq_iff_eq] at hb
      obtain ⟨hb1, rfl⟩ := hb
      exact hdep e (by simpa using he) hb1
    have hupd : (fun j => (listed.setIfInBounds i true).getD j false) = updL (fun j => listed.getD j false) i := by
      funext j
      unfold updL
      by_cases e : j = i
      · subst e; simp [hlt]
      · rw [if_neg e, getD_set_ne false (Ne.symm e)]
    have hs := step i o ho (fun j => listed.getD j false) x w (by simp [Array.getD_eq_getD_getElem?, Array.getElem?_eq_getElem hlt, hfalse]) hdeps hcl hG hY (wpAny P md ops Q fuel (listed.setIfInBounds i true)) (by
      intro v w' hy hG' hk
      have hd : (ops.toList.map (·.dst))[i]? = some o.dst := by simp [ho]
      rw [putL_upd hap hd, Nat.zero_add]
      refine ih _ _ _ (by simpa using hsz) ?_ ?_ ?_ ?_
      · have hcs := List.count_set (a := true) (b := false) (l := listed.toList) (i := i) (by simpa using hlt)
        have hpos : 0 < listed.toList.count false := List.count_pos_iff.2 (by rw [← hfalse]; simp)
        rw [Array.toList_setIfInBounds, hcs, show listed.toList[i]'(by simpa using hlt) = false from by simpa using hfalse, if_pos (by rfl), if_neg (by decide)]
        omega
      · rw [hupd]
        intro j oj hoj hLj d hd
        unfold updL at hLj ⊢
        by_cases e : d = i
        · rw [if_pos e]
        · rw [if_neg e]
          by_cases ej : j = i
          · subst ej
            rw [ho] at hoj
            injection hoj with hoj
            subst hoj
            exact hdeps d hd
          · rw [if_neg ej] at hLj
            exact hcl j oj hoj hLj d hd
      · rw [hupd]; exact hG'
      · intro j hj
        by_cases e : j = i
        · subst e; rw [show upd x j v j = v from if_pos rfl]; exact hy
        · rw [show upd x i v j = x j from if_neg e]
          rw [getD_set_ne false (Ne.symm e)] at hj
          exact hk j hj (hY j hj))
    unfold wpOp
    rw [ho]
    by_cases hw : Region.wanted o (yielded ops (putL (ops.toList.map (·.dst)) x 0 a).tmps) = true
    · rw [if_pos hw] at hs
      simp only [hw, if_true]
      exact .inl hs
    · rw [if_neg hw] at hs
      simp only [hw]
      exact hs

/-- A slot's own value. -/
def ownAt (a : Act) : Option Tmp → Value
  | some d => a.tmps.getD d undef
  | none => undef
theorem put_own (a : Act) (d : Option Tmp) : a.put d (ownAt a d) = a := by
  cases d with
  | none => rfl
  | some d =>
    have : a.tmps.setIfInBounds d (a.tmps.getD d undef) = a.tmps := by
      apply Array.ext
      · simp
      · intro i h1 h2
        rw [Array.getElem_setIfInBounds]
        split
        · rename_i h; subst h; simp [Array.getD_eq_getD_getElem?, Array.getElem?_eq_getElem h2]
        · rfl
    simp only [Act.put, ownAt, this]
theorem putL_own {ds : List (Option Tmp)} {x : Nat → Value} {a : Act} : ∀ {k : Nat}, (∀ i d, ds[i]? = some d → x (k + i) = ownAt a d) → putL ds x k a = a := by
  induction ds with
  | nil => intro _ _; rfl
  | cons d ds ih =>
    intro k h
    show putL ds x (k + 1) (a.put d (x k)) = a
    rw [show x k = ownAt a d from h 0 d rfl, put_own]
    exact ih (fun i e he => by have := h (i + 1) e (by simpa using he); rwa [show k + (i + 1) = k + 1 + i by omega] at this)

/-- Of each operation of a list, in its place. -/
def AllO (φ : Nat → Oper → Prop) : List Oper → Nat → Prop
  | [], _ => True
  | o :: r, k => φ k o ∧ AllO φ r (k + 1)
theorem AllO.at_ {φ : Nat → Oper → Prop} : ∀ {l : List Oper} {k : Nat}, AllO φ l k → ∀ (i : Nat) (o : Oper), l[i]? = some o → φ (k + i) o
  | [], _, _, i, o, h => by simp at h
  | _ :: _, _, h, 0, o, he => by
    simp only [List.getElem?_cons_zero, Option.some.injEq] at he
    subst he
    exact h.1
  | _ :: r, k, h, i + 1, o, he => by
    have := AllO.at_ h.2 i o (by simpa using he)
    rwa [show k + 1 + i = k + (i + 1) by omega] at this
theorem AllO.mono {φ ψ : Nat → Oper → Prop} : ∀ {l : List Oper} {k : Nat}, AllO φ l k → (∀ i o, φ i o → ψ i o) → AllO ψ l k
  | [], _, _, _ => trivial
  | _ :: _, _, h, hm => ⟨hm _ _ h.1, AllO.mono h.2 hm⟩

/-- THE REGION, its frame written out ('F'), its operations one by one; 'G L w' told by what has been carried out. -/
theorem wp_region_st {id : Nat} {w : World} {a : Act} (hm : P.follows .mixedOrders = true) (Y : Nat → Value → World → Prop) (G : (Nat → Bool) → World → Prop) (F : (Nat → Value) → Act) (hF : ∀ x, putL (ops.toList.map (·.dst)) x 0 a = F x)
    (hap : apartL (ops.toList.map (·.dst)) = true) (hback : (ops.toList.zipIdx.all fun p => p.1.after.all fun e => decide (e.on < p.2)) = true) (hG : G (fun _ => false) w.drew)
    (step : AllO (fun i o => ∀ (L : Nat → Bool) (x : Nat → Value) (w : World), L i = false → (∀ d, (o.after.toList.any fun e => Region.binds .any e && e.on == d) = true → L d = true) → Closed .any ops L → G L w → (∀ j, L j = true → Y j (x j) w) →
      ∀ K : Act → World → Prop, (∀ v w', Y i v w' → G (updL L i) w' → (∀ j, L j = true → Y j (x j) w → Y j (x j) w') → K ((F x).put o.dst v) w') →
        if Region.wanted o (yielded ops (F x).tmps) = true then Oper.wp P o (F x) w K Q else K ((F x).put o.dst undef) w) ops.toList 0)
    (fin : ∀ (L : Nat → Bool) (x : Nat → Value) (w : World), (∀ j, j < ops.size → L j = true) → G L w → (∀ j, j < ops.size → Y j (x j) w) → Q .normal (F x) w) : (Code.region id ops true).wp P Q a w := by
  refine wp_region_any hm ?_
  have hb : ∀ (i : Nat) (o : Oper), ops[i]? = some o → ∀ e ∈ o.after, e.on < i := by
    intro i o ho e he
    have hin : (o, i) ∈ ops.toList.zipIdx := by
      rw [List.mem_zipIdx_iff_getElem?]
      simpa using ho
    have := List.all_eq_true.1 hback _ hin
    have := Array.all_eq_true_iff_forall_mem.1 this e he
    simpa using this
  have h0 : (fun j => (Array.replicate ops.size false).getD j false) = fun _ => false := by
    funext j
    by_cases h : j < ops.size <;> simp [Array.getD_eq_getD_getElem?, h]
  have := wpAny_inv (P := P) (md := .any) (Q := Q) a Y G hap hb (fun i o ho L x w h1 h2 h3 h4 h5 K hK => by
      have hs := step.at_ i o (by simpa using ho)
      rw [Nat.zero_add] at hs
      rw [hF] at hK ⊢
      exact hs L x w h1 h2 h3 h4 h5 K hK) (fun L x w h1 h2 h3 => by rw [hF]; exact fin L x w h1 h2 h3) ops.size (Array.replicate ops.size false) (fun i => ownAt a (((ops.toList.map (·.dst))[i]?).getD none)) w.drew (by simp) (by simp)
      (by rw [h0]; intro j o _ h; cases h) (by rw [h0]; exact hG) (by
    intro j hj
    have := congrFun h0 j
    rw [this] at hj
    cases hj)
  rw [putL_own (fun i d hd => by rw [Nat.zero_add, hd]; rfl)] at this
  exact this

/-- The same where the worlds that come up are told by one property. -/
theorem wp_region_inv {id : Nat} {w : World} {a : Act} (hm : P.follows .mixedOrders = true) (R : World → Prop) (Y : Nat → Value → World → Prop) (F : (Nat → Value) → Act) (hF : ∀ x, putL (ops.toList.map (·.dst)) x 0 a = F x)
    (hap : apartL (ops.toList.map (·.dst)) = true) (hback : (ops.toList.zipIdx.all fun p => p.1.after.all fun e => decide (e.on < p.2)) = true) (hR : R w.drew)
    (step : AllO (fun i o => ∀ (x : Nat → Value) (w : World), R w → (∀ j, (o.after.toList.any fun e => Region.binds .any e && e.on == j) = true → Y j (x j) w) →
      ∀ K : Act → World → Prop, (∀ v w', Y i v w' → R w' → (∀ j u, Y j u w → Y j u w') → K ((F x).put o.dst v) w') →
        if Region.wanted o (yielded ops (F x).tmps) = true then Oper.wp P o (F x) w K Q else K ((F x).put o.dst undef) w) ops.toList 0)
    (fin : ∀ (x : Nat → Value) (w : World), R w → (∀ j, j < ops.size → Y j (x j) w) → Q .normal (F x) w) : (Code.region id ops true).wp P Q a w :=
  wp_region_st hm Y (fun _ w => R w) F hF hap hback hR (step.mono fun _ _ h _ x w _ hd _ hR hY K hK => h x w hR (fun j hj => hY j (hd j hj)) K fun v w' h1 h2 h3 => hK v w' h1 h2 fun j _ h => h3 j _ h) fun _ x w _ hR hY => fin x w hR hY
end
/-- A state that moves on at the operations of cs, one behind the other. -/
def SeqG (cs : List Nat) (St : Nat → World → Prop) (L : Nat → Bool) (W : World) : Prop := ∃ m, m ≤ cs.length ∧ St m W ∧ ∀ r, r < cs.length → L (cs.getD r 0) = decide (r < m)
theorem SeqG.start {cs : List Nat} {St : Nat → World → Prop} {W : World} (h : St 0 W) : SeqG cs St (fun _ => false) W := ⟨0, Nat.zero_le _, h, fun r _ => by simp⟩
theorem SeqG.same {cs : List Nat} {St : Nat → World → Prop} {L : Nat → Bool} {W W' : World} (h : SeqG cs St L W) (i : Nat) (hi : cs.contains i = false) (hS : ∀ m, St m W → St m W') : SeqG cs St (updL L i) W' := by
  obtain ⟨m, hm, hs, hr⟩ := h
  refine ⟨m, hm, hS m hs, fun r hrl => ?_⟩
  have hne : cs.getD r 0 ≠ i := by
    intro e
    have hmem : i ∈ cs := by
      rw [← e, List.getD_eq_getElem?_getD, List.getElem?_eq_getElem hrl]
      exact List.getElem_mem hrl
    rw [List.contains_eq_mem, decide_eq_false_iff_not] at hi
    exact hi hmem
  rw [show updL L i (cs.getD r 0) = L (cs.getD r 0) from if_neg hne, hr r hrl]
theorem SeqG.at_ {cs : List Nat} {St : Nat → World → Prop} {L : Nat → Bool} {W : World} (h : SeqG cs St L W) (q : Nat) (hq : q < cs.length) (hL : L (cs.getD q 0) = false) (hp : q = 0 ∨ L (cs.getD (q - 1) 0) = true) : St q W := by
  obtain ⟨m, hm, hs, hr⟩ := h
  have h1 : ¬ q < m := by have := hr q hq; rw [hL] at this; simpa using this.symm
  have h2 : m = q := by
    rcases hp with rfl | hp
    · omega
    · have := hr (q - 1) (by omega)
      rw [hp] at this
      have : q - 1 < m := by simpa using this.symm
      omega
  rw [← h2]
  exact hs
theorem SeqG.next {cs : List Nat} {St : Nat → World → Prop} {L : Nat → Bool} {W W' : World} (h : SeqG cs St L W) (q i : Nat) (hq : q < cs.length) (hi : cs.getD q 0 = i) (hL : L i = false) (hp : q = 0 ∨ L (cs.getD (q - 1) 0) = true)
    (hnd : (List.range cs.length).all (fun r => r == q || cs.getD r 0 != i) = true) (hS : St (q + 1) W') : SeqG cs St (updL L i) W' := by
  obtain ⟨m, hm, hs, hr⟩ := h
  have h1 : ¬ q < m := by have := hr q hq; rw [hi, hL] at this; simpa using this.symm
  have h2 : m = q := by
    rcases hp with rfl | hp
    · omega
    · have := hr (q - 1) (by omega)
      rw [hp] at this
      have : q - 1 < m := by simpa using this.symm
      omega
  subst h2
  refine ⟨m + 1, by omega, hS, fun r hrl => ?_⟩
  have h3 := List.all_eq_true.1 hnd r (List.mem_range.2 hrl)
  by_cases e : r = m
  · subst e
    rw [hi, show updL L i i = true from if_pos rfl]
    simp
  · have hne : cs.getD r 0 ≠ i := by
      have e1 : (r == m) = false := by simpa using e
      rw [e1, Bool.false_or, bne_iff_ne] at h3
      exact h3
    rw [show updL L i (cs.getD r 0) = L (cs.getD r 0) from if_neg hne, hr r hrl]
    have : (r < m) ↔ (r < m + 1) := by omega
    simp [this]
end Go.Proofs.YtoeepbmbfambcaaGreatDoor

namespace Go.Proofs.YtoeepbmbfambcaaGreatDoor
open Go.RowKit

/-- A user, as it lies in memory: five cells, and the texts of its row. -/
structure Us where
  nm : ByteArray
  hs : ByteArray
  ml : ByteArray
  dis : Bool
  ga : Option Addr
  gs : List ByteArray
  gc : Nat
/-- Its cells. -/
def Us.cells (u : Us) : Array Value := #[.string u.nm, .string u.hs, .string u.ml, .bool u.dis, .slice u.ga u.gs.length u.gc]
/-- As a value. -/
def Us.v (u : Us) : Value := .agg u.cells
/-- What is known of one that came in. -/
structure Us.Ok (w : World) (u : Us) : Prop where
  rd : RdS w u.ga u.gs
  nm : u.nm.size ≤ 140737488355328
  hs : u.hs.size ≤ 140737488355328
  ml : u.ml.size ≤ 140737488355328
  nil : u.ga = none → u.gc = 0
  len : u.gs.length ≤ u.gc
  cap : u.gc ≤ 9223372036854775807
  all : ∀ s ∈ u.gs, s.size ≤ 9223372036854775807
theorem Us.Ok.below {w W : World} {u : Us} (h : u.Ok w) (hb : Below w.heap.size w W) : u.Ok W := ⟨h.rd.below hb, h.nm, h.hs, h.ml, h.nil, h.len, h.cap, h.all⟩

/-- A user's block. -/
structure UsAt (w : World) (B : Nat) (u : Us) : Prop where
  lt : B < w.heap.size
  c0 : w.cell? ⟨B, 0, none⟩ = some (.string u.nm)
  c1 : w.cell? ⟨B, 1, none⟩ = some (.string u.hs)
  c2 : w.cell? ⟨B, 2, none⟩ = some (.string u.ml)
  c3 : w.cell? ⟨B, 3, none⟩ = some (.bool u.dis)
  c4 : w.cell? ⟨B, 4, none⟩ = some (.slice u.ga u.gs.length u.gc)
theorem UsAt.new (w : World) (u : Us) (t : TypeId) : UsAt (w.alloc (.cells #[.string u.nm, .string u.hs, .string u.ml, .bool u.dis, .slice u.ga u.gs.length u.gc] t)) w.heap.size u := by
  refine ⟨by simp, ?_, ?_, ?_, ?_, ?_⟩
  all_goals
    rw [World.cell?_alloc_at _ _ _ _ rfl]
    rfl
theorem UsAt.below_at {w W : World} {B : Nat} {u : Us} (h : UsAt w B u) {n : Nat} (hn : B < n) (hb : Below n w W) : UsAt W B u :=
  ⟨Nat.lt_of_lt_of_le h.lt hb.size, (hb.cell (p := ⟨B, 0, none⟩) hn).trans h.c0, (hb.cell (p := ⟨B, 1, none⟩) hn).trans h.c1, (hb.cell (p := ⟨B, 2, none⟩) hn).trans h.c2, (hb.cell (p := ⟨B, 3, none⟩) hn).trans h.c3, (hb.cell (p := ⟨B, 4, none⟩) hn).trans h.c4⟩
theorem UsAt.below {w W : World} {B : Nat} {u : Us} (h : UsAt w B u) (hb : Below w.heap.size w W) : UsAt W B u := h.below_at h.lt hb

theorem rds_cells {w : World} {b off : Nat} {ss : List ByteArray} (h : ∀ j (hj : j < ss.length), w.cell? ⟨b, off + j, none⟩ = some (.string ss[j])) : ∀ j, j < ss.length → w.cell? ⟨b, off + j, none⟩ = some (.string (ss.getD j ByteArray.empty)) := fun j hj => by
  rw [h j hj, List.getD_eq_getElem?_getD, List.getElem?_eq_getElem hj]
  rfl

theorem equal6_calls (A A' : Option Addr) (n c m c' : Nat) (ss ts : List ByteArray) (w : World) (hn : n = ss.length) (hm : m = ts.length) (h1 : RdS w A ss) (h2 : RdS w A' ts) (hb1 : n ≤ 9223372036854775807) (hb2 : m ≤ 9223372036854775807) :
    Calls Tryz.prog 113 #[.slice A n c, .slice A' m c'] w fun e w' => e = .returned (.bool (decide (ss = ts))) ∧ ∃ q, w' = w.drewN q := by
  subst hn; subst hm
  by_cases hl : ss.length = ts.length
  · by_cases h0 : ss = []
    · subst h0
      have ht : ts = [] := List.eq_nil_of_length_eq_zero hl.symm
      subst ht
      exact (Tryz.slices_Equal_string_empty A A' c 0 c' w (by omega)).mono fun e w' ⟨he, hw⟩ => ⟨by rw [he]; rfl, 0, by rw [hw]; rfl⟩
    · have h0' : ts ≠ [] := fun e => h0 (List.eq_nil_of_length_eq_zero (by rw [hl, e]; rfl))
      obtain ⟨b, off, rfl, _, hc⟩ := h1 h0
      obtain ⟨b', off', rfl, _, hc'⟩ := h2 h0'
      have := Tryz.slices_Equal_string b off ss.length c b' off' ts.length c' ss ts w (Nat.le_refl _) (Nat.le_refl _) hb1 hb2 (rds_cells hc) (rds_cells hc')
      rw [List.take_length, List.take_length] at this
      exact this
  · have hd : decide (ss = ts) = false := decide_eq_false (fun e => hl (by rw [e]))
    rw [hd]
    exact (Tryz.slices_Equal_string_lens A A' ss.length c ts.length c' w hl).mono fun e w' ⟨he, hw⟩ => ⟨he, 0, by rw [hw]; rfl⟩

/-- All fields are the same. -/
def sameU (a b : Us) : Bool := decide (a.nm = b.nm) && decide (a.hs = b.hs) && decide (a.ml = b.ml) && decide (a.dis = b.dis) && decide (a.gs = b.gs)

set_option maxRecDepth 100000 in
theorem same6_calls (a b : Us) (w : World) (ha : a.Ok w) (hb : b.Ok w) : Calls Tryz.prog 97 #[a.v, b.v] w (Tells5 (sameU a b) w) := by
  have HE : Hid (∀ W, Below w.heap.size w W → Calls Tryz.prog 113 #[.slice a.ga a.gs.length a.gc, .slice b.ga b.gs.length b.gc] W fun e w' => e = .returned (.bool (decide (a.gs = b.gs))) ∧ ∃ q, w' = W.drewN q) :=
    fun W h => equal6_calls _ _ _ _ _ _ a.gs b.gs W rfl rfl (ha.rd.below h) (hb.rd.below h) (Nat.le_trans ha.len ha.cap) (Nat.le_trans hb.len hb.cap)
  clear ha hb
  unfold sameU Us.v Us.cells
  obtain ⟨nm, hs, ml, dis, ga, gs, gc⟩ := a
  obtain ⟨nm', hs', ml', dis', ga', gs', gc'⟩ := b
  dsimp only at *
  generalize decide (gs = gs') = q5 at *
  generalize gs.length = n at *
  generalize gs'.length = m at *
  obtain ⟨r, hr⟩ : ∃ r, r = (decide (nm = nm') && decide (hs = hs') && decide (ml = ml') && decide (dis = dis') && q5) := ⟨_, rfl⟩
  rw [← hr]
  have HR := Lib.hid hr
  clear hr
  by_cases h1 : nm = nm'
  · by_cases h2 : hs = hs'
    · by_cases h3 : ml = ml'
      · by_cases h4 : dis = dis'
        · have HR2 : Hid (r = q5) := by rw [HR.out]; simp [h1, h2, h3, h4, Hid]
          subst h1; subst h2; subst h3; subst h4
          clear HR
          have h4d : (dis == dis) = true := by simp
          go_enter Tryz.func97, Tryz.ntmps97
          go_wp2_with fail
          with_reducible refine (HE.out _ (below_alloc (below_alloc (Below.refl _ _) _) _)).mono ?_
          rintro e w1 ⟨rfl, q, rfl⟩
          go_wp2
          go_ret
          exact ⟨by rw [HR2.out]; rfl, below_drewN (below_alloc (below_alloc (Below.refl _ _) _) _) q⟩
        · have hr : r = false := by rw [HR.out]; simp [h4]
          subst hr
          subst h1; subst h2; subst h3
          clear HR HE
          have h4d : (dis == dis') = false := by simpa using h4
          go_enter Tryz.func97, Tryz.ntmps97
          go_wp2
          go_ret
          exact ⟨rfl, below_alloc (below_alloc (Below.refl _ _) _) _⟩
      · have hr : r = false := by rw [HR.out]; simp [h3]
        subst hr
        subst h1; subst h2
        have hn := toList_ne6 h3
        have hn2 : (ml.toList == ml'.toList) = false := by simpa using hn
        clear HR HE h3
        go_enter Tryz.func97, Tryz.ntmps97
        go_wp2
        go_ret
        exact ⟨rfl, below_alloc (below_alloc (Below.refl _ _) _) _⟩
    · have hr : r = false := by rw [HR.out]; simp [h2]
      subst hr
      subst h1
      have hn := toList_ne6 h2
      have hn2 : (hs.toList == hs'.toList) = false := by simpa using hn
      clear HR HE h2
      go_enter Tryz.func97, Tryz.ntmps97
      go_wp2
      go_ret
      exact ⟨rfl, below_alloc (below_alloc (Below.refl _ _) _) _⟩
  · have hr : r = false := by rw [HR.out]; simp [h1]
    subst hr
    have hn := toList_ne6 h1
    have hn2 : (nm.toList == nm'.toList) = false := by simpa using hn
    clear HR HE h1
    go_enter Tryz.func97, Tryz.ntmps97
    go_wp2
    go_ret
    exact ⟨rfl, below_alloc (below_alloc (Below.refl _ _) _) _⟩

/-- Taken up: the name and the sum alone. -/
def upU (u : Us) : Us := ⟨u.nm, u.hs, ⟨#[]⟩, false, none, [], 0⟩
theorem upU_ok {w : World} {u : Us} (h : u.Ok w) (W : World) : (upU u).Ok W := ⟨fun e => absurd rfl e, h.nm, h.hs, Nat.zero_le _, fun _ => rfl, Nat.zero_le _, Nat.zero_le _, fun s hs => by cases hs⟩

set_option maxRecDepth 100000 in
theorem up6_calls (u : Us) (w : World) : Calls Tryz.prog 98 #[u.v] w fun e w' => e = .returned (upU u).v ∧ Below w.heap.size w w' := by
  unfold Us.v Us.cells upU
  obtain ⟨nm, hs, ml, dis, ga, gs, gc⟩ := u
  dsimp only
  generalize gs.length = n
  go_enter Tryz.func98, Tryz.ntmps98
  go_wp2
  refine bodyPost_ret (v := .agg #[.string nm, .string hs, .string ⟨#[]⟩, .bool false, .slice none 0 0]) (by simp [results, Tryz.results98, go_sem]) rfl ⟨rfl, ?_⟩
  exact below_alloc (below_alloc (Below.refl _ _) _) _

/-- Is it in a group? -/
def inU (u : Us) (g : ByteArray) : Bool := Lib.containsS u.gs g

end Go.Proofs.YtoeepbmbfambcaaGreatDoor

namespace Go.Proofs.YtoeepbmbfambcaaGreatDoor
open Go.RowKit

/-- Errors in a row, in memory. -/
def Errs6 (W : World) (v : Value) (es : List Int) : Prop :=
  ∃ G, v = .slice (some ⟨G, 0, none⟩) es.length es.length ∧ G < W.heap.size ∧ ∀ j (h : j < es.length), W.cell? ⟨G, j, none⟩ = some (.int .i64 es[j])
theorem Errs6.below {W W' : World} {v : Value} {es : List Int} (h : Errs6 W v es) (hb : Below W.heap.size W W') : Errs6 W' v es := by
  obtain ⟨G, e, hl, hc⟩ := h
  exact ⟨G, e, Nat.lt_of_lt_of_le hl hb.size, fun j hj => (hb.cell (p := ⟨G, j, none⟩) hl).trans (hc j hj)⟩
theorem errs6_new (W : World) (es : List Int) (t : TypeId) : Errs6 (W.alloc (.cells (es.map (Value.int .i64)).toArray t)) (.slice (some ⟨W.heap.size, 0, none⟩) es.length es.length) es := by
  refine ⟨_, rfl, by simp, fun j hj => ?_⟩
  rw [World.cell?_alloc_at _ _ _ _ rfl]
  simp [hj]
theorem Errs6.first {W : World} {v : Value} {es : List Int} (h : Errs6 W v es) (hn : es.length ≤ 1000) : Calls Tryz.prog 65 #[v] W fun e w' => e = .returned (.int .i64 (first6 es)) ∧ w' = W := by
  obtain ⟨G, rfl, _, hc⟩ := h
  exact first6_calls G es.length es.length es W rfl hn hc

/-- It has nothing but a name and a sum. -/
def bare6 (u : Us) : Bool := sameU u (upU u)
/-- What each operation makes. -/
def YBare (u : Us) (q : Bool) (e : Int) : Nat → Value → World → Prop
  | 0, v, _ => v = u.v
  | 1, v, _ => v = u.v
  | 2, v, _ => v = (upU u).v
  | 3, v, _ => v = .bool q
  | 4, v, _ => v = .int .i64 e
  | _, v, _ => v = .int .i64 e
theorem YBare_keep {u : Us} {q : Bool} {e : Int} {W W' : World} (_hb : Below W.heap.size W W') (j : Nat) (z : Value) (h : YBare u q e j z W) : YBare u q e j z W' := by
  match j, h with
  | 0, h => exact h
  | 1, h => exact h
  | 2, h => exact h
  | 3, h => exact h
  | 4, h => exact h
  | _ + 5, h => exact h

set_option maxRecDepth 100000 in
set_option maxHeartbeats 1000000 in
theorem bare6_calls (u : Us) (w : World) (h : u.Ok w) : Calls Tryz.prog 69 #[u.v] w (Errs5 (err5 (bare6 u) 12) w) := by
  have HS : Hid (∀ W, Below w.heap.size w W → Calls Tryz.prog 97 #[u.v, (upU u).v] W (Tells5 (bare6 u) W)) := fun W hb => same6_calls u (upU u) W (h.below hb) (upU_ok h W)
  have HP : Hid (∀ W, Calls Tryz.prog 98 #[u.v] W fun e w' => e = .returned (upU u).v ∧ Below W.heap.size W w') := fun W => up6_calls u W
  have HU : Hid (∀ W, Calls Tryz.prog 94 #[.bool (bare6 u), .int .i64 12] W fun e w' => e = .returned (.int .i64 (err5 (bare6 u) 12)) ∧ w' = W) := fun W => unless6_calls (bare6 u) 12 W
  have hat := UsAt.new w u 43
  clear h
  generalize err5 (bare6 u) 12 = r at *
  generalize bare6 u = q at *
  have HA := Lib.hid hat
  have HB0 := Lib.hid (below_alloc (Below.refl w.heap.size w) (.cells #[.string u.nm, .string u.hs, .string u.ml, .bool u.dis, .slice u.ga u.gs.length u.gc] 43))
  clear hat
  show Calls _ _ #[.agg #[.string u.nm, .string u.hs, .string u.ml, .bool u.dis, .slice u.ga u.gs.length u.gc]] _ _
  go_enter Tryz.func69, Tryz.ntmps69
  go_wp2_with fail
  generalize w.alloc (.cells #[.string u.nm, .string u.hs, .string u.ml, .bool u.dis, .slice u.ga u.gs.length u.gc] 43) = w1 at *
  refine wp_region_inv (by kernel_rfl) (fun W => Below w1.heap.size w1 W) (YBare u q r) ?F ?hF (by kernel_rfl) (by kernel_rfl) (below_drew (Below.refl _ _)) ?step ?fin
  case hF =>
    intro x
    simp only [List.map_cons, List.map_nil, putL, Act.put, List.setIfInBounds_toArray, List.set_cons_zero, List.set_cons_succ, Nat.zero_add, Nat.reduceAdd]
    exact rfl
  case step =>
    refine ⟨?_, ?_, ?_, ?_, ?_, ?_, trivial⟩
    all_goals intro x W hW hdep K hK
    · have hc := HA.out.below hW
      have c0 := hc.c0
      have c1 := hc.c1
      have c2 := hc.c2
      have c3 := hc.c3
      have c4 := hc.c4
      clear hdep
      go_simp
      exact hK _ _ rfl hW (fun _ _ h => h)
    · have hc := HA.out.below hW
      have c0 := hc.c0
      have c1 := hc.c1
      have c2 := hc.c2
      have c3 := hc.c3
      have c4 := hc.c4
      clear hdep
      go_simp
      exact hK _ _ rfl hW (fun _ _ h => h)
    · have h1 : x 1 = _ := hdep 1 rfl
      clear hdep
      simp only [h1] at hK
      go_simp
      refine (HP.out W).mono ?_
      rintro e W' ⟨rfl, hb⟩
      exact hK _ _ rfl (below_next hW hb) (fun j u h => YBare_keep hb j u h)
    · have h0 : x 0 = _ := hdep 0 rfl
      have h2 : x 2 = _ := hdep 2 rfl
      clear hdep
      simp only [h0, h2] at hK
      go_simp
      refine (HS.out W (below_next HB0.out hW)).mono ?_
      rintro e W' ⟨rfl, hb⟩
      exact hK _ _ rfl (below_next hW hb) (fun j u h => YBare_keep hb j u h)
    · have h3 : x 3 = _ := hdep 3 rfl
      clear hdep
      simp only [h3] at hK
      go_simp
      refine (HU.out W).mono ?_
      rintro e W' ⟨rfl, rfl⟩
      exact hK _ _ rfl hW (fun _ _ h => h)
    · have h4 : x 4 = _ := hdep 4 rfl
      clear hdep
      simp only [h4] at hK
      go_simp
      exact hK _ _ rfl hW (fun _ _ h => h)
  case fin =>
    intro x W hW hY
    have h5 : x 5 = .int .i64 r := hY 5 (by decide)
    clear hY
    have HF := Lib.hid (below_next HB0.out hW)
    clear hW HS HP HU HA HB0
    rw [h5]
    go_wp2
    go_ret
    exact ⟨rfl, HF.out⟩

/-- What each operation makes. -/
def YChkA (s : Int) (B : Nat) (u : Us) (e0 e1 e2 : Int) : Nat → Value → World → Prop
  | 0, v, _ => v = .int .i64 s
  | 1, v, _ => v = .int .i64 e0
  | 2, v, _ => v = .pointer (some ⟨B, 0, none⟩)
  | 3, v, _ => v = .string u.nm
  | 4, v, _ => v = .int .i64 e1
  | 5, v, _ => v = .pointer (some ⟨B, 1, none⟩)
  | 6, v, _ => v = .string u.hs
  | 7, v, _ => v = .int .i64 e2
  | 8, v, W => Errs6 W v [e0, e1, e2]
  | 9, v, _ => v = .int .i64 (first6 [e0, e1, e2])
  | _, v, _ => v = .int .i64 (first6 [e0, e1, e2])
theorem YChkA_keep {s : Int} {B : Nat} {u : Us} {e0 e1 e2 : Int} {W W' : World} (hb : Below W.heap.size W W') (j : Nat) (z : Value) (h : YChkA s B u e0 e1 e2 j z W) : YChkA s B u e0 e1 e2 j z W' := by
  match j, h with
  | 0, h => exact h
  | 1, h => exact h
  | 2, h => exact h
  | 3, h => exact h
  | 4, h => exact h
  | 5, h => exact h
  | 6, h => exact h
  | 7, h => exact h
  | 8, h => exact h.below hb
  | 9, h => exact h
  | _ + 10, h => exact h
/-- What each operation makes. -/
def YChkB (B : Nat) (u : Us) (e0 e1 e2 e3 e4 : Int) : Nat → Value → World → Prop
  | 0, v, _ => v = .int .i64 e0
  | 1, v, _ => v = .pointer (some ⟨B, 2, none⟩)
  | 2, v, _ => v = .string u.ml
  | 3, v, _ => v = .int .i64 e1
  | 4, v, _ => v = .pointer (some ⟨B, 4, none⟩)
  | 5, v, _ => v = .slice u.ga u.gs.length u.gc
  | 6, v, _ => v = .int .i64 e2
  | 7, v, _ => v = .pointer (some ⟨B, 4, none⟩)
  | 8, v, _ => v = .slice u.ga u.gs.length u.gc
  | 9, v, _ => v = .int .i64 e3
  | 10, v, _ => v = .pointer (some ⟨B, 4, none⟩)
  | 11, v, _ => v = .slice u.ga u.gs.length u.gc
  | 12, v, _ => v = .int .i64 e4
  | 13, v, W => Errs6 W v [e0, e1, e2, e3, e4]
  | 14, v, _ => v = .int .i64 (first6 [e0, e1, e2, e3, e4])
  | _, v, _ => v = .int .i64 (first6 [e0, e1, e2, e3, e4])
theorem YChkB_keep {B : Nat} {u : Us} {e0 e1 e2 e3 e4 : Int} {W W' : World} (hb : Below W.heap.size W W') (j : Nat) (z : Value) (h : YChkB B u e0 e1 e2 e3 e4 j z W) : YChkB B u e0 e1 e2 e3 e4 j z W' := by
  match j, h with
  | 0, h => exact h
  | 1, h => exact h
  | 2, h => exact h
  | 3, h => exact h
  | 4, h => exact h
  | 5, h => exact h
  | 6, h => exact h
  | 7, h => exact h
  | 8, h => exact h
  | 9, h => exact h
  | 10, h => exact h
  | 11, h => exact h
  | 12, h => exact h
  | 13, h => exact h.below hb
  | 14, h => exact h
  | _ + 15, h => exact h

/-- What Check tells. -/
def chk6 (s : Int) (u : Us) : Int :=
  let e := first6 [err5 (know6 s) 6, err5 (name5 u.nm.data.toList) 10, err5 (hash5 u.hs.data.toList) 4]
  if s = 1 then first6 [e, err5 (bare6 u) 12] else first6 [e, err5 (fold6 u.ml) 11, err5 (decide (u.gs.length ≤ 6)) 7, err5 (names6 u.gs) 10, err5 (rise6 u.gs) 9]

set_option maxRecDepth 100000 in
set_option maxHeartbeats 2000000 in
theorem check6_calls (s : Int) (u : Us) (w : World) (h : u.Ok w) (hm : Len5 w) : Calls Tryz.prog 41 #[.int .i64 s, u.v] w (Errs5 (chk6 s u) w) := by
  have HK : Hid (∀ W, Calls Tryz.prog 66 #[.int .i64 s] W fun e w' => e = .returned (.int .i64 (err5 (know6 s) 6)) ∧ w' = W) := fun W => known6_calls s W
  have HN : Hid (∀ W, Calls Tryz.prog 67 #[.string u.nm] W (Errs5 (err5 (name5 u.nm.data.toList) 10) W)) := fun W => Name_calls u.nm W (Nat.le_trans h.nm (by omega))
  have HH : Hid (∀ W, Calls Tryz.prog 68 #[.string u.hs] W (Errs5 (err5 (hash5 u.hs.data.toList) 4) W)) := fun W => Hash_calls u.hs W (Nat.le_trans h.hs (by omega))
  have HBR : Hid (∀ W, Below w.heap.size w W → Calls Tryz.prog 69 #[u.v] W (Errs5 (err5 (bare6 u) 12) W)) := fun W hb => bare6_calls u W (h.below hb)
  have HFO : Hid (∀ W, Below w.heap.size w W → Calls Tryz.prog 70 #[.string u.ml] W (Errs5 (err5 (fold6 u.ml) 11) W)) := fun W hb => folded6_calls u.ml W (Nat.le_trans h.ml (by omega)) (hm.later hb)
  have HFW : Hid (∀ W, Calls Tryz.prog 71 #[.slice u.ga u.gs.length u.gc] W fun e w' => e = .returned (.int .i64 (err5 (decide (u.gs.length ≤ 6)) 7)) ∧ w' = W) := fun W => few6_calls u.ga u.gs.length u.gc W
  have HNS : Hid (∀ W, Below w.heap.size w W → Calls Tryz.prog 72 #[.slice u.ga u.gs.length u.gc] W (Errs5 (err5 (names6 u.gs) 10) W)) := fun W hb => names6_calls u.ga u.gs.length u.gc u.gs W rfl (h.rd.below hb) (Nat.le_trans h.len h.cap) h.all
  have HRI : Hid (∀ W, Below w.heap.size w W → Calls Tryz.prog 73 #[.slice u.ga u.gs.length u.gc] W (Errs5 (err5 (rise6 u.gs) 9) W)) := fun W hb =>
    (rising6_calls u.ga u.gs.length u.gc u.gs W rfl (h.rd.below hb) (Nat.le_trans h.len h.cap)).mono fun e w' ⟨he, q, hq⟩ => ⟨he, by rw [hq]; exact below_drewN (Below.refl _ _) q⟩
  have HF2 : Hid (∀ (x y : Int) (W : World), Calls Tryz.prog 65 #[.slice (some ⟨W.heap.size, 0, none⟩) 2 2] (W.alloc (.cells #[.int .i64 x, .int .i64 y] 29)) fun e w' => e = .returned (.int .i64 (first6 [x, y])) ∧ w' = W.alloc (.cells #[.int .i64 x, .int .i64 y] 29)) :=
    fun x y W => first6_calls _ 2 2 [x, y] _ rfl (by omega) (two_cells W _ x y)
  have hat := UsAt.new w u 43
  have hb0 := below_alloc (Below.refl w.heap.size w) (.cells #[.string u.nm, .string u.hs, .string u.ml, .bool u.dis, .slice u.ga u.gs.length u.gc] 43)
  clear h hm
  obtain ⟨r, hr⟩ : ∃ r, r = chk6 s u := ⟨_, rfl⟩
  rw [← hr]
  unfold chk6 at hr
  have HR := Lib.hid hr
  clear hr
  generalize err5 (know6 s) 6 = e0 at *
  generalize err5 (name5 u.nm.data.toList) 10 = e1 at *
  generalize err5 (hash5 u.hs.data.toList) 4 = e2 at *
  generalize err5 (bare6 u) 12 = e3 at *
  generalize err5 (fold6 u.ml) 11 = e4 at *
  generalize err5 (decide (u.gs.length ≤ 6)) 7 = e5 at *
  generalize err5 (names6 u.gs) 10 = e6 at *
  generalize err5 (rise6 u.gs) 9 = e7 at *
  have HA := Lib.hid hat
  have HB0 := Lib.hid hb0
  clear hat hb0
  have huv : Hid (u.v = .agg #[.string u.nm, .string u.hs, .string u.ml, .bool u.dis, .slice u.ga u.gs.length u.gc]) := rfl
  rw [huv.out]
  go_enter Tryz.func41, Tryz.ntmps41
  go_wp2_with fail
  generalize w.alloc (.cells #[.string u.nm, .string u.hs, .string u.ml, .bool u.dis, .slice u.ga u.gs.length u.gc] 43) = w1 at *
  refine wp_region_inv (by kernel_rfl) (fun W => Below w1.heap.size w1 W) (YChkA s w.heap.size u e0 e1 e2) ?F ?hF (by kernel_rfl) (by kernel_rfl) (below_drew (Below.refl _ _)) ?step ?fin
  case hF =>
    intro x
    simp only [List.map_cons, List.map_nil, putL, Act.put, List.setIfInBounds_toArray, List.set_cons_zero, List.set_cons_succ, Nat.zero_add, Nat.reduceAdd]
    exact rfl
  case step =>
    refine ⟨?_, ?_, ?_, ?_, ?_, ?_, ?_, ?_, ?_, ?_, ?_, trivial⟩
    all_goals intro x W hW hdep K hK
    · clear hdep
      go_simp
      exact hK _ _ rfl hW (fun _ _ h => h)
    · have h0 : x 0 = _ := hdep 0 rfl
      clear hdep
      simp only [h0] at hK
      go_simp
      refine (HK.out W).mono ?_
      rintro e W' ⟨rfl, rfl⟩
      exact hK _ _ rfl hW (fun _ _ h => h)
    · clear hdep
      go_simp
      exact hK _ _ rfl hW (fun _ _ h => h)
    · have h2 : x 2 = _ := hdep 2 rfl
      have c0 := (HA.out.below hW).c0
      clear hdep
      simp only [h2] at hK
      go_simp
      exact hK _ _ rfl hW (fun _ _ h => h)
    · have h3 : x 3 = _ := hdep 3 rfl
      clear hdep
      simp only [h3] at hK
      go_simp
      refine (HN.out W).mono ?_
      rintro e W' ⟨rfl, hb⟩
      exact hK _ _ rfl (below_next hW hb) (fun j u h => YChkA_keep hb j u h)
    · clear hdep
      go_simp
      exact hK _ _ rfl hW (fun _ _ h => h)
    · have h5 : x 5 = _ := hdep 5 rfl
      have c1 := (HA.out.below hW).c1
      clear hdep
      simp only [h5] at hK
      go_simp
      exact hK _ _ rfl hW (fun _ _ h => h)
    · have h6 : x 6 = _ := hdep 6 rfl
      clear hdep
      simp only [h6] at hK
      go_simp
      refine (HH.out W).mono ?_
      rintro e W' ⟨rfl, hb⟩
      exact hK _ _ rfl (below_next hW hb) (fun j u h => YChkA_keep hb j u h)
    · have h1 : x 1 = _ := hdep 1 rfl
      have h4 : x 4 = _ := hdep 4 rfl
      have h7 : x 7 = _ := hdep 7 rfl
      clear hdep
      simp only [h1, h4, h7] at hK
      go_simp
      exact hK _ _ (errs6_new W [e0, e1, e2] _) (below_alloc hW _) (fun j z h => YChkA_keep (below_alloc (Below.refl _ _) _) j z h)
    · have h8 : Errs6 W (x 8) [e0, e1, e2] := hdep 8 rfl
      clear hdep
      go_simp
      refine (h8.first (by simp)).mono ?_
      rintro e W' ⟨rfl, rfl⟩
      exact hK _ _ rfl hW (fun _ _ h => h)
    · have h9 : x 9 = _ := hdep 9 rfl
      clear hdep
      simp only [h9] at hK
      go_simp
      exact hK _ _ rfl hW (fun _ _ h => h)
  case fin =>
    intro x W hW hY
    have h10 : x 10 = .int .i64 (first6 [e0, e1, e2]) := hY 10 (by decide)
    clear hY
    have HAW := Lib.hid (HA.out.below hW)
    have HW := Lib.hid (below_next HB0.out hW)
    clear hW HK HN HH HA HB0
    rw [h10]
    clear h10
    generalize first6 [e0, e1, e2] = f0 at *
    by_cases h1 : s = 1
    · have hr : r = first6 [f0, e3] := by rw [HR.out, if_pos h1]
      subst h1
      have HR2 := Lib.hid hr
      clear hr HR
      have c0 := HAW.out.c0
      have c1 := HAW.out.c1
      have c2 := HAW.out.c2
      have c3 := HAW.out.c3
      have c4 := HAW.out.c4
      have HBW := HBR.out W HW.out
      rw [huv.out] at HBW
      go_wp2_with fail
      with_reducible refine HBW.mono ?_
      rintro e w2 ⟨rfl, hb⟩
      have HW2 := Lib.hid (below_next HW.out hb)
      clear hb c0 c1 c2 c3 c4 HBW HBR
      go_wp2_with fail
      with_reducible refine (HF2.out f0 e3 _).mono ?_
      rintro e w3 ⟨rfl, rfl⟩
      have hr := HR2.out
      rw [← hr]
      clear hr HR2
      go_wp2
      go_ret
      exact ⟨rfl, below_alloc HW2.out _⟩
    · have hr : r = first6 [f0, e4, e5, e6, e7] := by rw [HR.out, if_neg h1]
      have HR2 := Lib.hid hr
      have h1d : (s == 1) = false := by simpa using h1
      clear hr HR HBR h1
      go_wp2_with fail
      refine wp_region_inv (by kernel_rfl) (fun W' => Below W.heap.size W W') (YChkB w.heap.size u f0 e4 e5 e6 e7) ?F2 ?hF2 (by kernel_rfl) (by kernel_rfl) (below_drew (Below.refl _ _)) ?step2 ?fin2
      case hF2 =>
        intro x
        simp only [List.map_cons, List.map_nil, putL, Act.put, List.setIfInBounds_toArray, List.set_cons_zero, List.set_cons_succ, Nat.zero_add, Nat.reduceAdd]
        exact rfl
      case step2 =>
        refine ⟨?_, ?_, ?_, ?_, ?_, ?_, ?_, ?_, ?_, ?_, ?_, ?_, ?_, ?_, ?_, ?_, trivial⟩
        all_goals intro x W hW hdep K hK
        · clear hdep
          go_simp
          exact hK _ _ rfl hW (fun _ _ h => h)
        · clear hdep
          go_simp
          exact hK _ _ rfl hW (fun _ _ h => h)
        · have h1 : x 1 = _ := hdep 1 rfl
          have c2 := (HAW.out.below hW).c2
          clear hdep
          simp only [h1] at hK
          go_simp
          exact hK _ _ rfl hW (fun _ _ h => h)
        · have h2 : x 2 = _ := hdep 2 rfl
          clear hdep
          simp only [h2] at hK
          go_simp
          refine (HFO.out W (below_next HW.out hW)).mono ?_
          rintro e W' ⟨rfl, hb⟩
          exact hK _ _ rfl (below_next hW hb) (fun j u h => YChkB_keep hb j u h)
        · clear hdep
          go_simp
          exact hK _ _ rfl hW (fun _ _ h => h)
        · have h4 : x 4 = _ := hdep 4 rfl
          have c4 := (HAW.out.below hW).c4
          clear hdep
          simp only [h4] at hK
          go_simp
          exact hK _ _ rfl hW (fun _ _ h => h)
        · have h5 : x 5 = _ := hdep 5 rfl
          clear hdep
          simp only [h5] at hK
          go_simp
          refine (HFW.out W).mono ?_
          rintro e W' ⟨rfl, rfl⟩
          exact hK _ _ rfl hW (fun _ _ h => h)
        · clear hdep
          go_simp
          exact hK _ _ rfl hW (fun _ _ h => h)
        · have h7 : x 7 = _ := hdep 7 rfl
          have c4 := (HAW.out.below hW).c4
          clear hdep
          simp only [h7] at hK
          go_simp
          exact hK _ _ rfl hW (fun _ _ h => h)
        · have h8 : x 8 = _ := hdep 8 rfl
          clear hdep
          simp only [h8] at hK
          go_simp
          refine (HNS.out W (below_next HW.out hW)).mono ?_
          rintro e W' ⟨rfl, hb⟩
          exact hK _ _ rfl (below_next hW hb) (fun j u h => YChkB_keep hb j u h)
        · clear hdep
          go_simp
          exact hK _ _ rfl hW (fun _ _ h => h)
        · have h10 : x 10 = _ := hdep 10 rfl
          have c4 := (HAW.out.below hW).c4
          clear hdep
          simp only [h10] at hK
          go_simp
          exact hK _ _ rfl hW (fun _ _ h => h)
        · have h11 : x 11 = _ := hdep 11 rfl
          clear hdep
          simp only [h11] at hK
          go_simp
          refine (HRI.out W (below_next HW.out hW)).mono ?_
          rintro e W' ⟨rfl, hb⟩
          exact hK _ _ rfl (below_next hW hb) (fun j u h => YChkB_keep hb j u h)
        · have h0 : x 0 = _ := hdep 0 rfl
          have h3 : x 3 = _ := hdep 3 rfl
          have h6 : x 6 = _ := hdep 6 rfl
          have h9 : x 9 = _ := hdep 9 rfl
          have h12 : x 12 = _ := hdep 12 rfl
          clear hdep
          simp only [h0, h3, h6, h9, h12] at hK
          go_simp
          exact hK _ _ (errs6_new W [f0, e4, e5, e6, e7] _) (below_alloc hW _) (fun j z h => YChkB_keep (below_alloc (Below.refl _ _) _) j z h)
        · have h13 : Errs6 W (x 13) [f0, e4, e5, e6, e7] := hdep 13 rfl
          clear hdep
          go_simp
          refine (h13.first (by simp)).mono ?_
          rintro e W' ⟨rfl, rfl⟩
          exact hK _ _ rfl hW (fun _ _ h => h)
        · have h14 : x 14 = _ := hdep 14 rfl
          clear hdep
          simp only [h14] at hK
          go_simp
          exact hK _ _ rfl hW (fun _ _ h => h)
      case fin2 =>
        intro x W' hW' hY
        have h15 : x 15 = .int .i64 (first6 [f0, e4, e5, e6, e7]) := hY 15 (by decide)
        clear hY
        have HF := Lib.hid (below_next HW.out hW')
        clear hW' HW HAW HFO HFW HNS HRI
        rw [h15]
        have hr := HR2.out
        rw [← hr]
        clear hr HR2 h15
        go_wp2
        go_ret
        exact ⟨rfl, HF.out⟩
end Go.Proofs.YtoeepbmbfambcaaGreatDoor

namespace Go.Proofs.YtoeepbmbfambcaaGreatDoor
open Go.RowKit

/-- A Writer that is new since w, with all that it wrote. -/
def NW6 (w : World) (B : Nat) (bs : List UInt8) (wr : World) : Prop :=
  w.heap.size ≤ B ∧ (∃ v, Wtr wr B v bs ∧ ∀ k, v.ownBlock = some k → w.heap.size ≤ k) ∧ Below w.heap.size w wr
theorem NW6.zero (w : World) : NW6 w w.heap.size [] (w.alloc (.cells #[.slice none 0 0] 48)) :=
  ⟨Nat.le_refl _, ⟨_, ⟨heap_alloc_new w _, World.ownsRow_nil _ _ _ _⟩, fun k hk => by simp [Value.ownBlock] at hk⟩, below_alloc (Below.refl _ _) _⟩
theorem Went.nw6 {w w1 w2 : World} {B : Nat} {v : Value} {bs : List UInt8} (hB : w.heap.size ≤ B) (hv : ∀ k, v.ownBlock = some k → w.heap.size ≤ k) (ht : Below w.heap.size w w1) (h : Went w1 B v bs w2) : NW6 w B bs w2 := by
  obtain ⟨v', hw, ho, ht2⟩ := h
  refine ⟨hB, ⟨v', hw, fun k hk => ?_⟩, ht.trans ((ht2.below_at ht.size (fun i hs => ?_)))⟩
  · rcases ho with ho | ⟨k', ho, hk'⟩
    · exact hv k (ho ▸ hk)
    · rw [ho] at hk; injection hk with hk; have := ht.size; omega
  · rcases hs with hs | hs
    · omega
    · exact hv i hs
theorem Wtr.below {w W : World} {B : Nat} {v : Value} {bs : List UInt8} (h : Wtr w B v bs) (hb : Below w.heap.size w W) : Wtr W B v bs := by
  refine ⟨(hb.block B h.lt).trans h.1, (Turns.of_below hb (fun _ => False)).owns h.2 (fun _ _ f => f)⟩
theorem NW6.below {w w1 w2 : World} {B : Nat} {bs : List UInt8} (h : NW6 w B bs w1) (hb : Below w1.heap.size w1 w2) : NW6 w B bs w2 := by
  obtain ⟨hB, ⟨v, hw, hv⟩, ht⟩ := h
  exact ⟨hB, ⟨v, hw.below hb, hv⟩, below_next ht hb⟩

/-- A user's block, whole. -/
def UsB (w : World) (B : Nat) (u : Us) : Prop := w.heap[B]? = some (.cells #[.string u.nm, .string u.hs, .string u.ml, .bool u.dis, .slice u.ga u.gs.length u.gc] 43 (0, 0))
theorem UsB.at_ {w : World} {B : Nat} {u : Us} (h : UsB w B u) : UsAt w B u := by
  refine ⟨(Array.getElem?_eq_some_iff.1 h).1, ?_, ?_, ?_, ?_, ?_⟩
  all_goals
    rw [cell_of_row w B _ _ _ (0, 0) h]
    rfl
theorem UsB.new (w : World) (u : Us) : UsB (w.alloc (.cells #[.string u.nm, .string u.hs, .string u.ml, .bool u.dis, .slice u.ga u.gs.length u.gc] 43)) w.heap.size u := heap_alloc_new w _
theorem UsB.below {w W : World} {B : Nat} {u : Us} (h : UsB w B u) (hb : Below w.heap.size w W) : UsB W B u := (hb.block B (Array.getElem?_eq_some_iff.1 h).1).trans h

/-- A new Writer beside a user's block. -/
def St6 (w : World) (B B5 : Nat) (u : Us) (bs : List UInt8) (W : World) : Prop := NW6 w B bs W ∧ UsB W B5 u
theorem St6.drew {w W : World} {B B5 : Nat} {u : Us} {bs : List UInt8} (h : St6 w B B5 u bs W) : St6 w B B5 u bs W.drew := ⟨h.1.below (below_drew (Below.refl _ _)), h.2⟩
/-- What a write leaves of them. -/
theorem St6.went {w W W' : World} {B B5 : Nat} {u : Us} {bs bs' : List UInt8} {v : Value} (h : St6 w B B5 u bs W) (hw : Wtr W B v bs) (hv : ∀ k, v.ownBlock = some k → w.heap.size ≤ k) (hg : Went W B v bs' W') : St6 w B B5 u bs' W' := by
  obtain ⟨⟨hB, _, hb⟩, hu⟩ := h
  refine ⟨hg.nw6 hB hv hb, ?_⟩
  obtain ⟨_, _, _, ht⟩ := hg
  have hlt := (Array.getElem?_eq_some_iff.1 hu).1
  refine (ht.block B5 hlt ?_).trans hu
  rintro (he | he)
  · subst he
    have := hw.1.symm.trans hu
    simp at this
  · rcases hw.2.2 with ⟨rfl, _⟩ | ⟨g, cap, cur, rfl, _, hg', _⟩
    · simp [Value.ownBlock] at he
    · have : g = B5 := by simpa [Value.ownBlock] using he
      subst this
      have := hg'.symm.trans hu
      simp at this
def Goes6 (w : World) (B B5 : Nat) (u : Us) (bs : List UInt8) (e : Ending) (W : World) : Prop := e = .returned (.pointer (some ⟨B, 0, none⟩)) ∧ St6 w B B5 u bs W
theorem St6.text {w W : World} {B B5 : Nat} {u : Us} {bs : List UInt8} (s : ByteArray) (hs : s.size ≤ 65535) (hr : bs.length ≤ 500000) (h : St6 w B B5 u bs W) :
    Calls Tryz.prog 42 #[.pointer (some ⟨B, 0, none⟩), .string s] W (Goes6 w B B5 u (bs ++ textB s)) := by
  obtain ⟨v, hw, hv⟩ := h.1.2.1
  exact (text_calls B v bs s W hw hs (by omega)).mono fun e W' ⟨he, hg⟩ => ⟨he, h.went hw hv hg⟩
theorem St6.truth {w W : World} {B B5 : Nat} {u : Us} {bs : List UInt8} (is : Bool) (hr : bs.length ≤ 500000) (h : St6 w B B5 u bs W) :
    Calls Tryz.prog 43 #[.pointer (some ⟨B, 0, none⟩), .bool is] W (Goes6 w B B5 u (bs ++ le is.toNat 1)) := by
  obtain ⟨v, hw, hv⟩ := h.1.2.1
  exact (truth_calls B v bs is W hw (by omega)).mono fun e W' ⟨he, hg⟩ => ⟨he, h.went hw hv hg⟩
theorem St6.row {w W : World} {B B5 : Nat} {u : Us} {bs : List UInt8} (A : Option Addr) (c : Nat) (ss : List ByteArray) (hA : RdS w A ss) (hc : ss.length ≤ c) (hm : c ≤ 9223372036854775807) (hl : ss.length ≤ 65535) (hs : ∀ s ∈ ss, s.size ≤ 65535) (hr : bs.length ≤ 500000) (h : St6 w B B5 u bs W) :
    Calls Tryz.prog 44 #[.pointer (some ⟨B, 0, none⟩), .slice A ss.length c] W (Goes6 w B B5 u (bs ++ rowB ss)) := by
  obtain ⟨v, hw, hv⟩ := h.1.2.1
  refine (row_calls B v bs A ss.length c ss W hw hc hm (by omega) (hA.below h.1.2.2) (fun hne a ha => ?_) hs (by omega)).mono fun e W' ⟨he, hg⟩ => ⟨he, h.went hw hv hg⟩
  obtain ⟨b, off, rfl, hb, _⟩ := hA hne
  injection ha with ha
  subst ha
  have h1 := h.1.1
  rintro (he | he)
  · simp only at he; omega
  · have := hv _ he; simp only at this; omega

/-- A user that may be is little. -/
structure Us.Little (u : Us) : Prop where
  nm : u.nm.size ≤ 12
  hs : u.hs.size ≤ 12
  ml : u.ml.size ≤ 20
  len : u.gs.length ≤ 6
  all : ∀ s ∈ u.gs, s.size ≤ 12
theorem err5_zero {b : Bool} {n : Int} (hn : n ≠ 0) (h : err5 b n = 0) : b = true := by
  cases b with
  | true => rfl
  | false => exact absurd h hn
theorem first6_zero : ∀ {l : List Int}, first6 l = 0 → ∀ e ∈ l, e = 0
  | [], _, e, h => by cases h
  | x :: l, h, e, he => by
    unfold first6 at h
    by_cases hx : x = 0
    · rw [if_pos hx] at h
      rcases List.mem_cons.1 he with rfl | he
      · exact hx
      · exact first6_zero h e he
    · rw [if_neg hx] at h
      exact absurd h hx
theorem name5_size {s : ByteArray} (h : name5 s.data.toList = true) : s.size ≤ 12 := by
  unfold name5 pref5 at h
  simp only [Bool.and_eq_true, decide_eq_true_eq, size_list] at h
  exact h.1.1.2.1
theorem hash5_size {s : ByteArray} (h : hash5 s.data.toList = true) : s.size ≤ 12 := by
  unfold hash5 at h
  simp only [Bool.and_eq_true, decide_eq_true_eq, size_list] at h
  exact h.1.2
theorem fold6_size {s : ByteArray} (h : fold6 s = true) : s.size ≤ 20 := by
  unfold fold6 mail5 at h
  simp only [Bool.and_eq_true, Bool.or_eq_true, decide_eq_true_eq, size_list] at h
  rcases h with h | h
  · omega
  · exact h.1.1.1.1
theorem chk6_head {s : Int} {u : Us} (h : chk6 s u = 0) : know6 s = true ∧ name5 u.nm.data.toList = true ∧ hash5 u.hs.data.toList = true := by
  have h0 : first6 [err5 (know6 s) 6, err5 (name5 u.nm.data.toList) 10, err5 (hash5 u.hs.data.toList) 4] = 0 := by
    unfold chk6 at h
    by_cases h1 : s = 1
    · rw [if_pos h1] at h
      exact first6_zero h _ (by simp)
    · rw [if_neg h1] at h
      exact first6_zero h _ (by simp)
  exact ⟨err5_zero (n := 6) (by decide) (first6_zero h0 _ (by simp)), err5_zero (n := 10) (by decide) (first6_zero h0 _ (by simp)), err5_zero (n := 4) (by decide) (first6_zero h0 _ (by simp))⟩
theorem bare6_eq {u : Us} (h : bare6 u = true) : u.ml = ⟨#[]⟩ ∧ u.dis = false ∧ u.gs = [] := by
  unfold bare6 sameU upU at h
  simp only [Bool.and_eq_true, decide_eq_true_eq] at h
  exact ⟨h.1.1.2, h.1.2, h.2⟩
theorem chk6_one {u : Us} (h : chk6 1 u = 0) : bare6 u = true := by
  unfold chk6 at h
  rw [if_pos rfl] at h
  exact err5_zero (by decide) (first6_zero h (err5 (bare6 u) 12) (by simp))
theorem chk6_two {u : Us} (h : chk6 2 u = 0) : fold6 u.ml = true ∧ u.gs.length ≤ 6 ∧ names6 u.gs = true ∧ rise6 u.gs = true := by
  unfold chk6 at h
  rw [if_neg (by decide)] at h
  refine ⟨err5_zero (by decide) (first6_zero h (err5 (fold6 u.ml) 11) (by simp)), ?_, err5_zero (n := 10) (by decide) (first6_zero h (err5 (names6 u.gs) 10) (by simp)), err5_zero (by decide) (first6_zero h (err5 (rise6 u.gs) 9) (by simp))⟩
  exact of_decide_eq_true (err5_zero (by decide) (first6_zero h (err5 (decide (u.gs.length ≤ 6)) 7) (by simp)))
theorem chk6_little {s : Int} {u : Us} (h : chk6 s u = 0) : u.Little ∧ (s = 1 ∨ s = 2) := by
  obtain ⟨h1, h2, h3⟩ := chk6_head h
  have hs : s = 1 ∨ s = 2 := by simpa [know6] using h1
  refine ⟨?_, hs⟩
  rcases hs with rfl | rfl
  · obtain ⟨e1, _, e3⟩ := bare6_eq (chk6_one h)
    exact ⟨name5_size h2, hash5_size h3, by rw [e1]; exact Nat.zero_le _, by rw [e3]; exact Nat.zero_le _, fun s hs => by rw [e3] at hs; cases hs⟩
  · obtain ⟨e1, e2, e3, _⟩ := chk6_two h
    exact ⟨name5_size h2, hash5_size h3, fold6_size e1, e2, fun s hs => name5_size (List.all_eq_true.1 e3 s hs)⟩

/-- A user's bytes. -/
def userB (s : Int) (u : Us) : List UInt8 := textB u.nm ++ textB u.hs ++ (if s = 2 then textB u.ml ++ le u.dis.toNat 1 ++ rowB u.gs else [])
/-- It is written, or it isn't. -/
def Put6 (w : World) (B : Nat) (bs : List UInt8) (s : Int) (u : Us) (e : Ending) (w' : World) : Prop :=
  (chk6 s u = 0 ∧ e = .returned (.bool true) ∧ NW6 w B (bs ++ userB s u) w') ∨ (chk6 s u ≠ 0 ∧ e = .returned (.bool false) ∧ NW6 w B bs w')

/-- What each operation makes. -/
def YPutA (B B5 : Nat) (u : Us) : Nat → Value → World → Prop
  | 0, v, _ => v = .pointer (some ⟨B, 0, none⟩)
  | 1, v, _ => v = .pointer (some ⟨B5, 0, none⟩)
  | 2, v, _ => v = .string u.nm
  | 3, v, _ => v = .pointer (some ⟨B, 0, none⟩)
  | 4, v, _ => v = .pointer (some ⟨B5, 1, none⟩)
  | 5, v, _ => v = .string u.hs
  | _, v, _ => v = .pointer (some ⟨B, 0, none⟩)
theorem YPutA_keep {B B5 : Nat} {u : Us} {W W' : World} (j : Nat) (z : Value) (h : YPutA B B5 u j z W) : YPutA B B5 u j z W' := by
  match j, h with
  | 0, h => exact h
  | 1, h => exact h
  | 2, h => exact h
  | 3, h => exact h
  | 4, h => exact h
  | 5, h => exact h
  | _ + 6, h => exact h
/-- What each operation makes. -/
def YPutB (B B5 : Nat) (u : Us) : Nat → Value → World → Prop
  | 0, v, _ => v = .pointer (some ⟨B, 0, none⟩)
  | 1, v, _ => v = .pointer (some ⟨B5, 2, none⟩)
  | 2, v, _ => v = .string u.ml
  | 3, v, _ => v = .pointer (some ⟨B, 0, none⟩)
  | 4, v, _ => v = .pointer (some ⟨B5, 3, none⟩)
  | 5, v, _ => v = .bool u.dis
  | 6, v, _ => v = .pointer (some ⟨B, 0, none⟩)
  | 7, v, _ => v = .pointer (some ⟨B5, 4, none⟩)
  | 8, v, _ => v = .slice u.ga u.gs.length u.gc
  | _, v, _ => v = .pointer (some ⟨B, 0, none⟩)
theorem YPutB_keep {B B5 : Nat} {u : Us} {W W' : World} (j : Nat) (z : Value) (h : YPutB B B5 u j z W) : YPutB B B5 u j z W' := by
  match j, h with
  | 0, h => exact h
  | 1, h => exact h
  | 2, h => exact h
  | 3, h => exact h
  | 4, h => exact h
  | 5, h => exact h
  | 6, h => exact h
  | 7, h => exact h
  | 8, h => exact h
  | _ + 9, h => exact h
/-- What has been written, step by step. -/
def pA6 (bs : List UInt8) (u : Us) : Nat → List UInt8
  | 0 => bs
  | 1 => bs ++ textB u.nm
  | _ => bs ++ textB u.nm ++ textB u.hs
def pB6 (bs : List UInt8) (u : Us) : Nat → List UInt8
  | 0 => bs
  | 1 => bs ++ textB u.ml
  | 2 => bs ++ textB u.ml ++ le u.dis.toNat 1
  | _ => bs ++ textB u.ml ++ le u.dis.toNat 1 ++ rowB u.gs
theorem SeqG.any {cs : List Nat} {St : Nat → World → Prop} {L : Nat → Bool} {W : World} {p : Prop} (h : SeqG cs St L W) (hp : ∀ m, St m W → p) : p := by
  obtain ⟨m, _, hs, _⟩ := h
  exact hp m hs
theorem SeqG.last {cs : List Nat} {St : Nat → World → Prop} {L : Nat → Bool} {W : World} (h : SeqG cs St L W) (hL : ∀ r, r < cs.length → L (cs.getD r 0) = true) : St cs.length W := by
  obtain ⟨m, hm, hs, hr⟩ := h
  have : m = cs.length := by
    by_cases e : m = cs.length
    · exact e
    · have h1 := hr m (by omega)
      rw [hL m (by omega)] at h1
      simp at h1
  rw [← this]
  exact hs

set_option maxRecDepth 100000 in
set_option maxHeartbeats 2000000 in
theorem put6_calls (w : World) (B : Nat) (bs : List UInt8) (s : Int) (u : Us) (W0 : World) (hw : NW6 w B bs W0) (h : u.Ok w) (hm : Len5 w) (hl : bs.length ≤ 1000) :
    Calls Tryz.prog 22 #[.pointer (some ⟨B, 0, none⟩), .int .i64 s, u.v] W0 (Put6 w B bs s u) := by
  have HC : Hid (∀ W, Below W0.heap.size W0 W → Calls Tryz.prog 41 #[.int .i64 s, u.v] W (Errs5 (chk6 s u) W)) := fun W hb => check6_calls s u W (h.below (below_next hw.2.2 hb)) (hm.later (below_next hw.2.2 hb))
  have HB0 := Lib.hid (below_alloc (Below.refl W0.heap.size W0) (.cells #[.string u.nm, .string u.hs, .string u.ml, .bool u.dis, .slice u.ga u.gs.length u.gc] 43))
  have HS0 : Hid (St6 w B W0.heap.size u bs (W0.alloc (.cells #[.string u.nm, .string u.hs, .string u.ml, .bool u.dis, .slice u.ga u.gs.length u.gc] 43))) := ⟨hw.below HB0.out, UsB.new W0 u⟩
  have HO := Lib.hid h
  have huv : Hid (u.v = .agg #[.string u.nm, .string u.hs, .string u.ml, .bool u.dis, .slice u.ga u.gs.length u.gc]) := rfl
  obtain ⟨ck, hck⟩ : ∃ ck, ck = chk6 s u := ⟨_, rfl⟩
  rw [← hck] at HC
  have HCK := Lib.hid hck
  have hcall := HC.out (W0.alloc (.cells #[.string u.nm, .string u.hs, .string u.ml, .bool u.dis, .slice u.ga u.gs.length u.gc] 43)) HB0.out
  rw [huv.out] at hcall ⊢
  have HC1 := Lib.hid hcall
  clear hw h hm hck hcall HC
  have hat := HS0.out.2.at_
  have c0 := hat.c0
  have c1 := hat.c1
  have c2 := hat.c2
  have c3 := hat.c3
  have c4 := hat.c4
  clear hat
  go_enter Tryz.func22, Tryz.ntmps22
  go_wp2_with fail
  with_reducible refine HC1.out.mono ?_
  rintro e w2 ⟨rfl, hb⟩
  have HS2 : Hid (St6 w B W0.heap.size u bs w2) := ⟨HS0.out.1.below hb, HS0.out.2.below hb⟩
  clear hb HC1 HS0 c0 c1 c2 c3 c4
  by_cases h0 : ck = 0
  · obtain ⟨hli, hs12⟩ := chk6_little (HCK.out.symm.trans h0)
    have hn1 := hli.nm
    have hn2 := hli.hs
    have hn3 := hli.ml
    have htl : ∀ t : ByteArray, (textB t).length = t.size + 2 := textB_length
    have HP : Hid (∀ w', NW6 w B (bs ++ userB s u) w' → Put6 w B bs s u (.returned (.bool true)) w') := fun w' h => .inl ⟨HCK.out.symm.trans h0, rfl, h⟩
    clear HCK
    subst h0
    have HG0 : Hid (SeqG [3, 6] (fun m W => St6 w B W0.heap.size u (pA6 bs u m) W) (fun _ => false) w2.drew) := SeqG.start HS2.out.drew
    have HUB : Hid (∀ L W, SeqG [3, 6] (fun m W => St6 w B W0.heap.size u (pA6 bs u m) W) L W → UsAt W W0.heap.size u) := fun L W hG => hG.any fun m hs => hs.2.at_
    have HT0 : Hid (∀ W, St6 w B W0.heap.size u (pA6 bs u 0) W → _) := fun W hs => St6.text u.nm (by omega) (show bs.length ≤ _ by omega) hs
    have HT1 : Hid (∀ W, St6 w B W0.heap.size u (pA6 bs u 1) W → _) := fun W hs => St6.text u.hs (by omega) (show (bs ++ textB u.nm).length ≤ _ by rw [List.length_append, htl]; omega) hs
    go_wp2_with fail
    refine wp_region_st (by kernel_rfl) (YPutA B W0.heap.size u) (SeqG [3, 6] (fun m W => St6 w B W0.heap.size u (pA6 bs u m) W)) ?F ?hF (by kernel_rfl) (by kernel_rfl) HG0.out ?step ?fin
    case hF =>
      intro x
      simp only [List.map_cons, List.map_nil, putL, Act.put, List.setIfInBounds_toArray, List.set_cons_zero, List.set_cons_succ, Nat.zero_add, Nat.reduceAdd]
      exact rfl
    case step =>
      refine ⟨?_, ?_, ?_, ?_, ?_, ?_, ?_, trivial⟩
      all_goals intro L y W hL hd hcl hG hY K hK
      · clear hd hcl hY
        go_simp
        exact hK _ _ rfl (hG.same 0 rfl (fun _ h => h)) (fun _ _ h => h)
      · clear hd hcl hY
        go_simp
        exact hK _ _ rfl (hG.same 1 rfl (fun _ h => h)) (fun _ _ h => h)
      · have h1 : y 1 = _ := hY 1 (hd 1 rfl)
        have c := (HUB.out L W hG).c0
        clear hd hcl hY
        simp only [h1] at hK
        go_simp
        exact hK _ _ rfl (hG.same 2 rfl (fun _ h => h)) (fun _ _ h => h)
      · have h0 : y 0 = _ := hY 0 (hd 0 rfl)
        have h2 : y 2 = _ := hY 2 (hd 2 rfl)
        have hst := hG.at_ 0 (by decide) hL (.inl rfl)
        have HNX := Lib.hid (fun W' h => hG.next (W' := W') 0 3 (by decide) rfl hL (.inl rfl) (by decide) h)
        have HCALL := Lib.hid (HT0.out W hst)
        clear hst
        clear hd hcl hY
        simp only [h0, h2] at hK
        go_simp
        refine HCALL.out.mono ?_
        rintro e W' ⟨rfl, hst⟩
        exact hK _ _ rfl (HNX.out W' hst) (fun j _ h => YPutA_keep j _ h)
      · clear hd hcl hY
        go_simp
        exact hK _ _ rfl (hG.same 4 rfl (fun _ h => h)) (fun _ _ h => h)
      · have h4 : y 4 = _ := hY 4 (hd 4 rfl)
        have c := (HUB.out L W hG).c1
        clear hd hcl hY
        simp only [h4] at hK
        go_simp
        exact hK _ _ rfl (hG.same 5 rfl (fun _ h => h)) (fun _ _ h => h)
      · have h3 : y 3 = _ := hY 3 (hd 3 rfl)
        have h5 : y 5 = _ := hY 5 (hd 5 rfl)
        have hst := hG.at_ 1 (by decide) hL (.inr (hd 3 rfl))
        have HNX := Lib.hid (fun W' h => hG.next (W' := W') 1 6 (by decide) rfl hL (.inr (hd 3 rfl)) (by decide) h)
        have HCALL := Lib.hid (HT1.out W hst)
        clear hst
        clear hd hcl hY
        simp only [h3, h5] at hK
        go_simp
        refine HCALL.out.mono ?_
        rintro e W' ⟨rfl, hst⟩
        exact hK _ _ rfl (HNX.out W' hst) (fun j _ h => YPutA_keep j _ h)
    case fin =>
      intro L y W hL hG hY
      have hst := hG.last (fun r hr => hL _ (by match r, hr with | 0, _ => decide | 1, _ => decide))
      have HS3 : Hid (St6 w B W0.heap.size u (bs ++ textB u.nm ++ textB u.hs) W) := hst
      clear hY hG hL hst HT0 HT1 HUB HG0 HS2
      rcases hs12 with rfl | rfl
      · have HP1 : Hid (∀ w', NW6 w B (bs ++ textB u.nm ++ textB u.hs) w' → Put6 w B bs 1 u (.returned (.bool true)) w') := fun w' h => HP.out w' (by
          rw [userB, if_neg (by decide), List.append_nil, ← List.append_assoc]; exact h)
        clear HP
        go_wp2
        go_ret
        exact HP1.out _ HS3.out.1
      · have HP1 : Hid (∀ w', NW6 w B (bs ++ textB u.nm ++ textB u.hs ++ textB u.ml ++ le u.dis.toNat 1 ++ rowB u.gs) w' → Put6 w B bs 2 u (.returned (.bool true)) w') := fun w' h => HP.out w' (by
          rw [userB, if_pos rfl]
          simpa only [List.append_assoc] using h)
        clear HP
        obtain ⟨b2, hb2⟩ : ∃ b2, b2 = bs ++ textB u.nm ++ textB u.hs := ⟨_, rfl⟩
        have hl2 : b2.length ≤ 2000 := by rw [hb2, List.length_append, List.length_append, htl, htl]; omega
        rw [← hb2] at HS3 HP1
        clear hb2
        have HG0 : Hid (SeqG [3, 6, 9] (fun m W => St6 w B W0.heap.size u (pB6 b2 u m) W) (fun _ => false) W.drew) := SeqG.start HS3.out.drew
        have HUB : Hid (∀ L W, SeqG [3, 6, 9] (fun m W => St6 w B W0.heap.size u (pB6 b2 u m) W) L W → UsAt W W0.heap.size u) := fun L W hG => hG.any fun m hs => hs.2.at_
        have HT0 : Hid (∀ W, St6 w B W0.heap.size u (pB6 b2 u 0) W → _) := fun W hs => St6.text u.ml (by omega) (show b2.length ≤ _ by omega) hs
        have HT1 : Hid (∀ W, St6 w B W0.heap.size u (pB6 b2 u 1) W → _) := fun W hs => St6.truth u.dis (show (b2 ++ textB u.ml).length ≤ _ by rw [List.length_append, htl]; omega) hs
        have HT2 : Hid (∀ W, St6 w B W0.heap.size u (pB6 b2 u 2) W → _) := fun W hs => St6.row u.ga u.gc u.gs HO.out.rd HO.out.len HO.out.cap (by have := hli.len; omega) (fun s h => by have := hli.all s h; omega) (show (b2 ++ textB u.ml ++ le u.dis.toNat 1).length ≤ _ by rw [List.length_append, List.length_append, htl, le_length]; omega) hs
        clear HO hli HS3
        go_wp2_with fail
        refine wp_region_st (by kernel_rfl) (YPutB B W0.heap.size u) (SeqG [3, 6, 9] (fun m W => St6 w B W0.heap.size u (pB6 b2 u m) W)) ?F2 ?hF2 (by kernel_rfl) (by kernel_rfl) HG0.out ?step2 ?fin2
        case hF2 =>
          intro x
          simp only [List.map_cons, List.map_nil, putL, Act.put, List.setIfInBounds_toArray, List.set_cons_zero, List.set_cons_succ, Nat.zero_add, Nat.reduceAdd]
          exact rfl
        case step2 =>
          refine ⟨?_, ?_, ?_, ?_, ?_, ?_, ?_, ?_, ?_, ?_, trivial⟩
          all_goals intro L y W hL hd hcl hG hY K hK
          · clear hd hcl hY
            go_simp
            exact hK _ _ rfl (hG.same 0 rfl (fun _ h => h)) (fun _ _ h => h)
          · clear hd hcl hY
            go_simp
            exact hK _ _ rfl (hG.same 1 rfl (fun _ h => h)) (fun _ _ h => h)
          · have h1 : y 1 = _ := hY 1 (hd 1 rfl)
            have c := (HUB.out L W hG).c2
            clear hd hcl hY
            simp only [h1] at hK
            go_simp
            exact hK _ _ rfl (hG.same 2 rfl (fun _ h => h)) (fun _ _ h => h)
          · have h0 : y 0 = _ := hY 0 (hd 0 rfl)
            have h2 : y 2 = _ := hY 2 (hd 2 rfl)
            have hst := hG.at_ 0 (by decide) hL (.inl rfl)
            have HNX := Lib.hid (fun W' h => hG.next (W' := W') 0 3 (by decide) rfl hL (.inl rfl) (by decide) h)
            have HCALL := Lib.hid (HT0.out W hst)
            clear hst
            clear hd hcl hY
            simp only [h0, h2] at hK
            go_simp
            refine HCALL.out.mono ?_
            rintro e W' ⟨rfl, hst⟩
            exact hK _ _ rfl (HNX.out W' hst) (fun j _ h => YPutB_keep j _ h)
          · clear hd hcl hY
            go_simp
            exact hK _ _ rfl (hG.same 4 rfl (fun _ h => h)) (fun _ _ h => h)
          · have h4 : y 4 = _ := hY 4 (hd 4 rfl)
            have c := (HUB.out L W hG).c3
            clear hd hcl hY
            simp only [h4] at hK
            go_simp
            exact hK _ _ rfl (hG.same 5 rfl (fun _ h => h)) (fun _ _ h => h)
          · have h3 : y 3 = _ := hY 3 (hd 3 rfl)
            have h5 : y 5 = _ := hY 5 (hd 5 rfl)
            have hst := hG.at_ 1 (by decide) hL (.inr (hd 3 rfl))
            have HNX := Lib.hid (fun W' h => hG.next (W' := W') 1 6 (by decide) rfl hL (.inr (hd 3 rfl)) (by decide) h)
            have HCALL := Lib.hid (HT1.out W hst)
            clear hst
            clear hd hcl hY
            simp only [h3, h5] at hK
            go_simp
            refine HCALL.out.mono ?_
            rintro e W' ⟨rfl, hst⟩
            exact hK _ _ rfl (HNX.out W' hst) (fun j _ h => YPutB_keep j _ h)
          · clear hd hcl hY
            go_simp
            exact hK _ _ rfl (hG.same 7 rfl (fun _ h => h)) (fun _ _ h => h)
          · have h7 : y 7 = _ := hY 7 (hd 7 rfl)
            have c := (HUB.out L W hG).c4
            clear hd hcl hY
            simp only [h7] at hK
            go_simp
            exact hK _ _ rfl (hG.same 8 rfl (fun _ h => h)) (fun _ _ h => h)
          · have h6 : y 6 = _ := hY 6 (hd 6 rfl)
            have h8 : y 8 = _ := hY 8 (hd 8 rfl)
            have hst := hG.at_ 2 (by decide) hL (.inr (hd 6 rfl))
            have HNX := Lib.hid (fun W' h => hG.next (W' := W') 2 9 (by decide) rfl hL (.inr (hd 6 rfl)) (by decide) h)
            have HCALL := Lib.hid (HT2.out W hst)
            clear hst
            clear hd hcl hY
            simp only [h6, h8] at hK
            go_simp
            refine HCALL.out.mono ?_
            rintro e W' ⟨rfl, hst⟩
            exact hK _ _ rfl (HNX.out W' hst) (fun j _ h => YPutB_keep j _ h)
        case fin2 =>
          intro L y W hL hG hY
          have hst := hG.last (fun r hr => hL _ (by match r, hr with | 0, _ => decide | 1, _ => decide | 2, _ => decide))
          have HS4 : Hid (St6 w B W0.heap.size u (b2 ++ textB u.ml ++ le u.dis.toNat 1 ++ rowB u.gs) W) := hst
          clear hY hG hL hst HT0 HT1 HT2 HUB HG0
          go_wp2
          go_ret
          exact HP1.out _ HS4.out.1
  · have HP : Hid (∀ w', NW6 w B bs w' → Put6 w B bs s u (.returned (.bool false)) w') := fun w' h => .inr ⟨fun e => h0 (HCK.out.trans e), rfl, h⟩
    clear HCK
    have h0d : (ck != 0) = true := by simpa using h0
    go_wp2
    go_ret
    exact HP.out _ HS2.out.1
end Go.Proofs.YtoeepbmbfambcaaGreatDoor

namespace Go.Proofs.YtoeepbmbfambcaaGreatDoor
open Go.RowKit

/-- New bytes, told. -/
def Told6 (w : World) (l : List UInt8) (e : Ending) (w' : World) : Prop :=
  ∃ v', e = .returned v' ∧ w'.ownsRow 0 5 1 v' l.length (cellsOf l) ∧ (∀ k, v'.ownBlock = some k → w.heap.size ≤ k) ∧ Below w.heap.size w w'
theorem NW6.bytes {w W : World} {B : Nat} {bs : List UInt8} (h : NW6 w B bs W) (hl : bs.length ≤ 1000000) : Calls Tryz.prog 23 #[.pointer (some ⟨B, 0, none⟩)] W (Told6 W bs) := by
  obtain ⟨v, hw, hv⟩ := h.2.1
  exact (bytes_calls B v bs W hw (by omega)).mono fun e W' ⟨v', he, ho, hb, ht⟩ => ⟨v', he, ho, hb, ht.below (fun _ f => f.elim)⟩

/-- The chapter's example. -/
def ex6 : Us := ⟨⟨#[97]⟩, ⟨#[49]⟩, ⟨#[]⟩, false, none, [], 0⟩
theorem ex6_ok (w : World) : ex6.Ok w := ⟨fun e => absurd rfl e, by decide, by decide, by decide, fun _ => rfl, by decide, by decide, fun s hs => by cases hs⟩
theorem ex6_chk : chk6 1 ex6 = 0 := by decide +kernel
theorem ex6_bytes : userB 1 ex6 = [1, 0, 97, 1, 0, 49] := by decide +kernel

/-- How much the groups that are looked at count for. -/
def sum6 (gs : List ByteArray) : Nat := (gs.map fun g => min g.size 1000).sum
/-- A user is little. -/
def fewU (u : Us) : Bool := decide (u.nm.size + u.hs.size + u.ml.size + sum6 (u.gs.take 30) ≤ 400) && decide (u.gs.length ≤ 20)
theorem sum6_le (gs : List ByteArray) : sum6 gs ≤ 1000 * gs.length := by
  induction gs with
  | nil => simp [sum6]
  | cons g gs ih =>
    have : sum6 (g :: gs) = min g.size 1000 + sum6 gs := by simp [sum6]
    rw [this, List.length_cons]
    omega
theorem sum6_snoc (gs : List ByteArray) (k : Nat) (hk : k < gs.length) : sum6 (gs.take (k + 1)) = sum6 (gs.take k) + min gs[k].size 1000 := by
  unfold sum6
  rw [List.take_succ_eq_append_getElem hk, List.map_append, List.sum_append]
  simp
theorem sum6_mem (gs : List ByteArray) : ∀ g ∈ gs, min g.size 1000 ≤ sum6 gs := by
  induction gs with
  | nil => intro g h; cases h
  | cons x gs ih =>
    intro g h
    have e : sum6 (x :: gs) = min x.size 1000 + sum6 gs := by simp [sum6]
    rw [e]
    rcases List.mem_cons.1 h with rfl | h
    · omega
    · have := ih g h; omega
theorem fewU_facts {u : Us} (h : fewU u = true) : u.nm.size ≤ 400 ∧ u.hs.size ≤ 400 ∧ u.ml.size ≤ 400 ∧ u.gs.length ≤ 20 ∧ ∀ g ∈ u.gs, g.size ≤ 400 := by
  unfold fewU at h
  simp only [Bool.and_eq_true, decide_eq_true_eq] at h
  refine ⟨by omega, by omega, by omega, h.2, fun g hg => ?_⟩
  have ht : u.gs.take 30 = u.gs := List.take_of_length_le (by omega)
  rw [ht] at h
  have := sum6_mem u.gs g hg
  omega

set_option maxRecDepth 100000 in
set_option maxHeartbeats 1000000 in
theorem few6U_calls (u : Us) (w : World) (h : u.Ok w) : Calls Tryz.prog 17 #[u.v] w (Tells5 (fewU u) w) := by
  have hat := UsAt.new w u 43
  have hb0 := below_alloc (Below.refl w.heap.size w) (.cells #[.string u.nm, .string u.hs, .string u.ml, .bool u.dis, .slice u.ga u.gs.length u.gc] 43)
  have hrd := h.rd.below hb0
  have hn1 := h.nm
  have hn2 := h.hs
  have hn3 := h.ml
  have hlen := h.len
  have hcap := h.cap
  have HALL := Lib.hid h.all
  have HRD := Lib.hid hrd
  have HB0 := Lib.hid hb0
  have c0 := hat.c0
  have c1 := hat.c1
  have c2 := hat.c2
  have c4 := hat.c4
  obtain ⟨r, hr⟩ : ∃ r, r = fewU u := ⟨_, rfl⟩
  rw [← hr]
  unfold fewU at hr
  have HR := Lib.hid hr
  clear h hat hb0 hrd hr
  show Calls _ _ #[.agg #[.string u.nm, .string u.hs, .string u.ml, .bool u.dis, .slice u.ga u.gs.length u.gc]] _ _
  obtain ⟨nm, hs, ml, dis, A, gs, c⟩ := u
  dsimp only at *
  obtain ⟨n, hn⟩ : ∃ n, n = gs.length := ⟨_, rfl⟩
  rw [← hn] at hlen c4 HR HB0 HRD c0 c1 c2 ⊢
  have HN := Lib.hid hn
  clear hn
  obtain ⟨m, hm⟩ : ∃ m, m = min n 30 := ⟨_, rfl⟩
  have hmn : m ≤ n := by omega
  have hm30 : m ≤ 30 := by omega
  have hmi : min (n : Int) 30 = (m : Int) := by omega
  have HM := Lib.hid hm
  clear hm
  have HS : Hid (∀ k, k ≤ 30 → sum6 (gs.take k) ≤ 30000) := fun k hk => by
    have h1 := sum6_le (gs.take k)
    have h2 : (gs.take k).length ≤ k := List.length_take_le _ _
    omega
  go_enter Tryz.func17, Tryz.ntmps17
  go_wp2
  generalize w.alloc (.cells #[.string nm, .string hs, .string ml, .bool dis, .slice A n c] 43) = w1 at *
  obtain ⟨t0, ht0⟩ : ∃ t0, t0 = nm.size + hs.size + ml.size := ⟨_, rfl⟩
  have hz0 : (nm.size : Int) + (hs.size : Int) + (ml.size : Int) = (t0 : Int) := by omega
  have ht9 : t0 ≤ 500000000000000 := by omega
  rw [hz0]
  rw [← ht0] at HR
  clear c0 c1 c2 hz0 ht0
  go_loopg [3, 5, 25] m (fun gg s3 _ s25 wr => ∃ k t : Nat, k ≤ m ∧ m - k ≤ gg ∧ s25 = .int .i64 k ∧ s3 = .int .i64 t ∧ Hid (t = t0 + sum6 (gs.take k)) ∧ wr = w1)
  case atStart => exact ⟨0, t0, Nat.zero_le _, by omega, rfl, rfl, rfl, rfl⟩
  case round =>
    obtain ⟨k, t, hk, hg, rfl, rfl, HT, rfl⟩ := hrel
    have hts := HS.out k (by omega)
    have ht := HT.out
    have htb : t ≤ 500000000030000 := by omega
    clear hts ht
    by_cases hlt : k < m
    · have hltz : (k : Int) < (m : Int) := by omega
      have hkl : k < gs.length := by have := HN.out; omega
      obtain ⟨b, off, rfl, hcell⟩ := HRD.out.at6 k hkl
      have hx9 := HALL.out _ (List.getElem_mem hkl)
      have HX : Hid (t + min gs[k].size 1000 = t0 + sum6 (gs.take (k + 1))) := by
        show _ = _
        rw [sum6_snoc gs k hkl, HT.out]; omega
      generalize gs[k] = x at *
      obtain ⟨y, hy⟩ : ∃ y, y = min x.size 1000 := ⟨_, rfl⟩
      have hyi : min (x.size : Int) 1000 = (y : Int) := by omega
      have hy1 : y ≤ 1000 := by omega
      rw [← hy] at HX
      clear hy HT
      go_wp2
      go_roundg (m - (k + 1))
      case measure => omega
      case rel => exact ⟨k + 1, t + y, by omega, by omega, by go_num, by go_num, HX, rfl⟩
    · have hltz : ¬ (k : Int) < (m : Int) := by omega
      obtain rfl : k = m := by omega
      have hr : r = (decide (t ≤ 400) && decide (n ≤ 20)) := by
        rw [HR.out, HT.out]
        have e : gs.take k = gs.take 30 := by
          by_cases h30 : n ≤ 30
          · have : k = n := by have := HM.out; omega
            rw [this, HN.out, List.take_length, List.take_of_length_le (by have := HN.out; omega)]
          · have : k = 30 := by have := HM.out; omega
            rw [this]
        rw [e]
      by_cases h4 : t ≤ 400
      · have h4z : (t : Int) ≤ 400 := by omega
        by_cases h20 : n ≤ 20
        · have h20z : (n : Int) ≤ 20 := by omega
          have hr1 : r = true := by rw [hr, decide_eq_true h4, decide_eq_true h20]; rfl
          subst hr1
          clear hr HR HT
          go_wp2
          go_ret
          exact ⟨rfl, HB0.out⟩
        · have h20z : ¬ (n : Int) ≤ 20 := by omega
          have hr1 : r = false := by rw [hr, decide_eq_false h20, Bool.and_false]
          subst hr1
          clear hr HR HT
          go_wp2
          go_ret
          exact ⟨rfl, HB0.out⟩
      · have h4z : ¬ (t : Int) ≤ 400 := by omega
        have hr1 : r = false := by rw [hr, decide_eq_false h4]; rfl
        subst hr1
        clear hr HR HT
        go_wp2
        go_ret
        exact ⟨rfl, HB0.out⟩
end Go.Proofs.YtoeepbmbfambcaaGreatDoor

namespace Go.Proofs.YtoeepbmbfambcaaGreatDoor
open Go.RowKit

/-- Five cells of a user, whole. -/
def Blk5 (w : World) (B : Nat) (a b c d e : Value) : Prop := w.heap[B]? = some (.cells #[a, b, c, d, e] 43 (0, 0))
theorem Blk5.lt {w : World} {B : Nat} {a b c d e : Value} (h : Blk5 w B a b c d e) : B < w.heap.size := (Array.getElem?_eq_some_iff.1 h).1
theorem Blk5.at_ {w : World} {B : Nat} {a b c d e : Value} (h : Blk5 w B a b c d e) (j : Nat) : w.cell? ⟨B, j, none⟩ = #[a, b, c, d, e][j]? := cell_of_row w B j _ _ (0, 0) h
theorem Blk5.free {w : World} {B : Nat} {a b c d e : Value} (h : Blk5 w B a b c d e) (j : Nat) : w.frozen? ⟨B, j, none⟩ = false := by
  have h' : w.heap[B]? = some (.cells #[a, b, c, d, e] 43 (0, 0)) := h
  simp [World.frozen?, h']
theorem Blk5.set4 {w : World} {B : Nat} {a b c d e : Value} (h : Blk5 w B a b c d e) (x : Value) : Blk5 (w.setCell ⟨B, 4, none⟩ x) B a b c d x := by
  have h' : w.heap[B]? = some (.cells #[a, b, c, d, e] 43 (0, 0)) := h
  simp [Blk5, World.setCell, Array.getElem?_modify, h']
theorem Blk5.other {w : World} {B C j : Nat} {a b c d e : Value} (h : Blk5 w B a b c d e) (hne : B ≠ C) (x : Value) : Blk5 (w.setCell ⟨C, j, none⟩ x) B a b c d e := by
  show (w.setCell ⟨C, j, none⟩ x).heap[B]? = _
  rw [Below.heap_setCell _ _ _ _ hne]
  exact h

/-- All five are stored. -/
def set5 (w : World) (B : Nat) (a b c d e : Value) : World := ((((w.setCell ⟨B, 0, none⟩ a).setCell ⟨B, 1, none⟩ b).setCell ⟨B, 2, none⟩ c).setCell ⟨B, 3, none⟩ d).setCell ⟨B, 4, none⟩ e
theorem Blk5.set5 {w : World} {B : Nat} {a b c d e : Value} (h : Blk5 w B a b c d e) (a' b' c' d' e' : Value) : Blk5 (set5 w B a' b' c' d' e') B a' b' c' d' e' := by
  have h' : w.heap[B]? = some (.cells #[a, b, c, d, e] 43 (0, 0)) := h
  simp [Blk5, Go.Proofs.YtoeepbmbfambcaaGreatDoor.set5, World.setCell, Array.getElem?_modify, h']
theorem turns_set5 {S : Nat → Prop} {a0 w : World} (h : Turns S a0 w) (B : Nat) (hB : B < a0.heap.size → S B) (a b c d e : Value) : Turns S a0 (set5 w B a b c d e) :=
  ((((h.setCell (p := ⟨B, 0, none⟩) hB a).setCell (p := ⟨B, 1, none⟩) hB b).setCell (p := ⟨B, 2, none⟩) hB c).setCell (p := ⟨B, 3, none⟩) hB d).setCell (p := ⟨B, 4, none⟩) hB e
theorem owns_turns {S : Nat → Prop} {w w' : World} {b0 b1 : Nat} {e : TypeId} {size n : Nat} {v : Value} {xs : List Value} (ho : w.ownsRow b0 e size v n xs) (h1 : b1 ≤ b0) (ht : Turns S w w') (hS : ∀ k, b0 ≤ k → ¬ S k) : w'.ownsRow b1 e size v n xs := by
  refine ⟨ho.1, ?_⟩
  rcases ho.2 with h0 | ⟨g, cap, cur, rfl, hb, hg, rest⟩
  · exact .inl h0
  · exact .inr ⟨g, cap, cur, rfl, Nat.le_trans h1 hb, (ht.block g (Array.getElem?_eq_some_iff.1 hg).1 (hS g hb)).trans hg, rest⟩

end Go.Proofs.YtoeepbmbfambcaaGreatDoor

namespace Go.Proofs.YtoeepbmbfambcaaGreatDoor
open Go.RowKit

/-- New texts are told, in a row of their own. -/
def Rows6 (w : World) (B : Nat) (st : St) (ss : List ByteArray) (e : Ending) (w' : World) : Prop := ∃ A c, e = .returned (.slice A ss.length c) ∧ w'.ownsRow 0 9 1 (.slice A ss.length c) ss.length (ss.map Value.string) ∧ (∀ j, Value.ownBlock (.slice A ss.length c) = some j → w.heap.size ≤ j) ∧ Did w B st w'

set_option maxRecDepth 100000 in
set_option maxHeartbeats 2000000 in
theorem rrow6_calls (B : Nat) (st : St) (most long : Int) (w : World) (h : Rdr w B st) (hl : st.bs.length ≤ 1099511627776) :
    Calls Tryz.prog 77 #[.pointer (some ⟨B, 0, none⟩), .int .i64 most, .int .i64 long] w (Rows6 w B (rowS st most long).1 (rowS st most long).2) := by
  obtain ⟨i0, hi, hz0, hz1, hz2⟩ := info_parts infoText
  have HN := Lib.hid (rlength_calls B st most w h hl)
  have hll := lengthS_left st most
  have hlt := lengthS_lt st most
  have HR : Hid (rowGo long (lengthS st most).2 (lengthS st most).1 [] = rowS st most long) := rfl
  generalize rowS st most long = res at *
  generalize (lengthS st most).2 = n at *
  generalize (lengthS st most).1 = s0 at *
  have hl0 : s0.bs.length ≤ 1099511627776 := by omega
  clear h hl hll
  go_enter Tryz.func77, Tryz.ntmps77
  go_wp2_with fail
  with_reducible refine HN.out.mono ?_
  rintro e w1 ⟨rfl, hd⟩
  have HD := Lib.hid hd
  clear hd HN
  go_wp2
  go_loopw [7, 12] (fun l i wr => ∃ (k : Nat) (s1 : St) (ss : List ByteArray) (A : Option Addr) (c : Nat), k ≤ n ∧ i = .int .i64 k ∧ l = .slice A ss.length c ∧ ss.length = k ∧ wr.ownsRow 0 9 1 (.slice A ss.length c) ss.length (textCells ss) ∧ (∀ j, Value.ownBlock (.slice A ss.length c) = some j → w.heap.size ≤ j) ∧ Did w B s1 wr ∧ s1.bs.length ≤ 1099511627776 ∧ rowGo long (n - k) s1 ss = res) (fun _ i _ => n - (intOf i).toNat)
  case atStart => exact ⟨0, s0, [], none, 0, Nat.zero_le _, rfl, rfl, rfl, World.ownsRow_nil _ _ _ _, by simp [Value.ownBlock], HD.out, hl0, HR.out⟩
  case round =>
    obtain ⟨k, s1, ss, A, c, hk, rfl, rfl, hsl, hown, hnew, hdid, hsb, hgo⟩ := hrel
    clear HD HR hl0
    by_cases hltk : k < n
    · rw [show n - k = (n - (k + 1)) + 1 by omega] at hgo
      have hne := own_ne_reader hdid.rdr hown
      have HTX := Lib.hid (rtext_calls B s1 long wr hdid.rdr hsb)
      have htl := textS_left s1 long
      have hge : w.heap.size ≤ wr.heap.size := hdid.2.size
      unfold rowGo at hgo
      generalize hs2 : (textS s1 long).1 = s2 at *
      generalize (textS s1 long).2 = tx at *
      have hsz : s2.bs.length ≤ 1099511627776 := by omega
      have HOW := Lib.hid hown
      have HNEW := Lib.hid hnew
      have HDID := Lib.hid hdid
      have HNE := Lib.hid hne
      have HGO := Lib.hid hgo
      have HSL := Lib.hid hsl
      clear hown hnew hdid hne hgo hs2 htl hsb hsl
      go_wp2_with fail
      with_reducible refine HTX.out.mono ?_
      rintro e w2 ⟨rfl, hd2⟩
      obtain ⟨v2, hb2, hrd2⟩ := hd2.rdr
      have c1 : w2.cell? ⟨B, 1, none⟩ = some (.int .i64 s2.e) := by rw [cell_of_row w2 B 1 _ _ (0, 0) hb2]; rfl
      have HD2 := Lib.hid (HDID.out.next hd2)
      have HO2 := Lib.hid (hd2.2.owns HOW.out (fun j hj he => HNE.out (by rw [hj, he])))
      have hge2 : w.heap.size ≤ w2.heap.size := Nat.le_trans hge hd2.2.size
      clear hb2 hrd2 hd2 HTX HOW HDID
      by_cases he : s2.e = 0
      · have hgo := HGO.out
        rw [if_neg (by simpa using he)] at hgo
        have HG2 := Lib.hid hgo
        have d1 : (s2.e != 0) = false := by simpa using he
        have hsrc : Src Tryz.prog 1 41 (.slice (some ⟨w2.heap.size, 0, none⟩) 1 1) 1 (textCells [⟨tx.toArray⟩]) (w2.alloc (.cells #[.string ⟨tx.toArray⟩] 9)) :=
          Src.ofSlice _ Tryz.underlying41 _ 1 1 _ rfl (cell_one_new _ _ _) (by intro u hu; simp [textCells] at hu; subst hu; rfl)
        have HSRC := Lib.hid hsrc
        clear hgo hsrc he HGO
        have hsn : ss.length ≤ 65536 := by have := HSL.out; omega
        go_wp2_with (at_builtin; refine wpList_append_src _ rfl (.tmp 22) (.tmp 24) 41 41 (by rfl) 9 i0 _ 1 16 Tryz.underlying41 hi hz0 hz1 hz2 rfl (.slice A ss.length c) ss.length (textCells ss) (by rfl) (HO2.out.alloc _) (.slice (some ⟨w2.heap.size, 0, none⟩) 1 1) 1 (textCells [⟨tx.toArray⟩]) (by rfl) HSRC.out (by simp only [maxLen]; omega) (by omega) ?_; intro A3 c3 w3 ho3 hg3 ha3)
        have R3 : w3.ownsRow 0 9 1 (.slice A3 (ss ++ [ByteArray.mk tx.toArray]).length c3) (ss ++ [ByteArray.mk tx.toArray]).length (textCells (ss ++ [ByteArray.mk tx.toArray])) := by
          have e1 : (ss ++ [ByteArray.mk tx.toArray]).length = ss.length + 1 := by simp
          rw [e1]
          simpa [textCells] using ho3
        have N3 : ∀ j, Value.ownBlock (.slice A3 (ss ++ [ByteArray.mk tx.toArray]).length c3) = some j → w.heap.size ≤ j := by
          intro j hj
          have hj' : Value.ownBlock (.slice A3 (ss.length + 1) c3) = some j := by simpa [Value.ownBlock] using hj
          rcases ha3 with h3 | h3
          · exact HNEW.out j (h3 ▸ hj')
          · rw [h3] at hj'
            injection hj' with hj'
            simp at hj'
            omega
        have D3 : Did w B s2 w3 := by
          have hB : B < w2.heap.size := HD2.out.rdr.lt
          have ht : Turns (fun i => Value.ownBlock (.slice A ss.length c) = some i) w2 w3 := (((Turns.refl _ w2).alloc _).grown hg3 (fun k hk _ => hk))
          refine ⟨?_, HD2.out.2.next ht (fun i hi he => by have := HNEW.out i he; omega)⟩
          obtain ⟨u, hu, hru⟩ := HD2.out.rdr
          refine ⟨u, (ht.block B hB HNE.out).trans hu, ?_⟩
          rcases hru with h0 | ⟨g, off, cc, rfl, h1, h2, h3, h4, hbk, h5⟩
          · exact .inl h0
          · have hgn : Value.ownBlock (.slice A ss.length c) ≠ some g := by
              obtain ⟨cur, fr, hcur⟩ := hbk
              intro he
              rcases HO2.out.2 with ⟨hv, _⟩ | ⟨g', cap', cur', hv, _, hg', _⟩
              · rw [hv] at he; simp [Value.ownBlock] at he
              · rw [hv] at he
                have : g' = g := by simpa [Value.ownBlock] using he
                subst this
                have := hcur.symm.trans hg'
                simp at this
            exact .inr ⟨g, off, cc, rfl, h1, h2, Nat.lt_of_lt_of_le h3 ht.size, h4, hbk.keep ht hgn, fun j hj => (ht.cell (p := ⟨g, off + j, none⟩) h3 hgn).trans (h5 j hj)⟩
        have HR3 := Lib.hid R3
        have HN3 := Lib.hid N3
        have HD3 := Lib.hid D3
        clear ho3 hg3 ha3 R3 N3 D3
        go_wp2
        go_roundw
        case rel => exact ⟨k + 1, s2, ss ++ [⟨tx.toArray⟩], A3, c3, by omega, by go_num, by simp, by simp [HSL.out], HR3.out, HN3.out, HD3.out, hsz, HG2.out⟩
        case measure => simp [intOf]; omega
      · have hgo := HGO.out
        rw [if_pos (by simpa using he)] at hgo
        have HG2 := Lib.hid hgo
        have d1 : (s2.e != 0) = true := by simpa using he
        clear hgo he HGO
        go_wp2
        go_ret
        refine ⟨none, 0, ?_, ?_, ?_, ?_⟩
        · rw [← HG2.out]; rfl
        · rw [← HG2.out]; exact World.ownsRow_nil _ _ _ _
        · intro j hj; simp [Value.ownBlock] at hj
        · rw [← HG2.out]; exact HD2.out
    · obtain rfl : k = n := by omega
      rw [Nat.sub_self] at hgo
      have HGO : Hid ((s1, ss) = res) := hgo
      have HOW := Lib.hid hown
      have HDID := Lib.hid hdid
      have HNR := Lib.hid hnew
      clear hgo hown hdid hnew
      go_wp2
      go_ret
      rw [← HGO.out]
      exact ⟨A, c, rfl, HOW.out, HNR.out, HDID.out⟩
end Go.Proofs.YtoeepbmbfambcaaGreatDoor

namespace Go.Proofs.YtoeepbmbfambcaaGreatDoor
open Go.RowKit

/-- A zero user's cells. -/
def Zero5 (w : World) (B : Nat) : Prop := Blk5 w B (.string ⟨#[]⟩) (.string ⟨#[]⟩) (.string ⟨#[]⟩) (.bool false) (.slice none 0 0)
/-- A Reader, the user that is read, and the answer's block, both new since w. -/
structure Gt6 (w : World) (B : Nat) (st : St) (a b c d e : Value) (W : World) : Prop where
  rdr : Rdr W B st
  t : Turns (fun i => i = B) w W
  v : Blk5 W (w.heap.size + 1) a b c d e
  z : Zero5 W w.heap.size

section
variable {w W W' : World} {B : Nat} {st st' : St} {a b c d e : Value}
theorem Gt6.start (h : Rdr w B st) : Gt6 w B st (.string ⟨#[]⟩) (.string ⟨#[]⟩) (.string ⟨#[]⟩) (.bool false) (.slice none 0 0)
    ((w.alloc (.cells #[.string ⟨#[]⟩, .string ⟨#[]⟩, .string ⟨#[]⟩, .bool false, .slice none 0 0] 43)).alloc (.cells #[.string ⟨#[]⟩, .string ⟨#[]⟩, .string ⟨#[]⟩, .bool false, .slice none 0 0] 43)) := by
  have ht : Turns (fun _ => False) w ((w.alloc (.cells #[.string ⟨#[]⟩, .string ⟨#[]⟩, .string ⟨#[]⟩, .bool false, .slice none 0 0] 43)).alloc (.cells #[.string ⟨#[]⟩, .string ⟨#[]⟩, .string ⟨#[]⟩, .bool false, .slice none 0 0] 43)) := ((Turns.refl _ _).alloc _).alloc _
  refine ⟨h.still ht, ht.mono (fun _ _ f => f.elim), ?_, ?_⟩
  · have := heap_alloc_new (w.alloc (.cells #[.string ⟨#[]⟩, .string ⟨#[]⟩, .string ⟨#[]⟩, .bool false, .slice none 0 0] 43)) (.cells #[.string ⟨#[]⟩, .string ⟨#[]⟩, .string ⟨#[]⟩, .bool false, .slice none 0 0] 43)
    simpa [Blk5] using this
  · show _ = _
    rw [Below.heap_alloc _ _ _ (by simp)]
    exact heap_alloc_new w _
theorem Gt6.did (hB : B < w.heap.size) (h : Gt6 w B st a b c d e W) (hd : Did W B st' W') : Gt6 w B st' a b c d e W' :=
  ⟨hd.1, h.t.next hd.2 (fun _ _ h => h), (hd.2.block _ h.v.lt (by omega)).trans h.v, (hd.2.block _ (Blk5.lt h.z) (by omega)).trans h.z⟩
theorem Gt6.below (h : Gt6 w B st a b c d e W) (hb : Below W.heap.size W W') : Gt6 w B st a b c d e W' :=
  ⟨h.rdr.still (Turns.of_below hb _), h.t.next (Turns.of_below hb (fun i => i = B)) (fun _ _ h => h), (hb.block _ h.v.lt).trans h.v, (hb.block _ (Blk5.lt h.z)).trans h.z⟩
/-- A store into a user's block leaves a Reader as it is. -/
theorem rdr_apart {C j : Nat} (h : Rdr W B st) (hC : Blk5 W C a b c d e) (x : Value) : Rdr (W.setCell ⟨C, j, none⟩ x) B st := by
  obtain ⟨u, hu, hr⟩ := h
  have ht : Turns (fun i => i = C) W (W.setCell ⟨C, j, none⟩ x) := (Turns.refl (fun i => i = C) W).setCell (p := ⟨C, j, none⟩) (fun _ => rfl) x
  have hne : B ≠ C := fun e => by
    subst e
    have := hu.symm.trans hC
    simp at this
  refine ⟨u, (ht.block B (Array.getElem?_eq_some_iff.1 hu).1 hne).trans hu, ?_⟩
  rcases hr with h0 | ⟨g, off, cc, rfl, h1, h2, h3, h4, hbk, h5⟩
  · exact .inl h0
  · have hg : g ≠ C := fun e => by
      subst e
      obtain ⟨cur, fr, hcur⟩ := hbk
      have := hcur.symm.trans hC
      simp at this
    exact .inr ⟨g, off, cc, rfl, h1, h2, Nat.lt_of_lt_of_le h3 ht.size, h4, hbk.keep ht hg, fun j hj => (ht.cell (p := ⟨g, off + j, none⟩) h3 hg).trans (h5 j hj)⟩
theorem Gt6.store {j : Nat} {x a' b' c' d' e' : Value} (h : Gt6 w B st a b c d e W) (hv : Blk5 (W.setCell ⟨w.heap.size + 1, j, none⟩ x) (w.heap.size + 1) a' b' c' d' e') : Gt6 w B st a' b' c' d' e' (W.setCell ⟨w.heap.size + 1, j, none⟩ x) :=
  ⟨rdr_apart h.rdr h.v x, h.t.setCell (p := ⟨w.heap.size + 1, j, none⟩) (fun hl => absurd hl (by simp)) x, hv, Blk5.other h.z (by omega) x⟩
theorem Blk5.set0 (h : Blk5 w B a b c d e) (x : Value) : Blk5 (w.setCell ⟨B, 0, none⟩ x) B x b c d e := by
  have h' : w.heap[B]? = some (.cells #[a, b, c, d, e] 43 (0, 0)) := h
  simp [Blk5, World.setCell, Array.getElem?_modify, h']
theorem Blk5.set1 (h : Blk5 w B a b c d e) (x : Value) : Blk5 (w.setCell ⟨B, 1, none⟩ x) B a x c d e := by
  have h' : w.heap[B]? = some (.cells #[a, b, c, d, e] 43 (0, 0)) := h
  simp [Blk5, World.setCell, Array.getElem?_modify, h']
theorem Blk5.set2 (h : Blk5 w B a b c d e) (x : Value) : Blk5 (w.setCell ⟨B, 2, none⟩ x) B a b x d e := by
  have h' : w.heap[B]? = some (.cells #[a, b, c, d, e] 43 (0, 0)) := h
  simp [Blk5, World.setCell, Array.getElem?_modify, h']
theorem Blk5.set3 (h : Blk5 w B a b c d e) (x : Value) : Blk5 (w.setCell ⟨B, 3, none⟩ x) B a b c x e := by
  have h' : w.heap[B]? = some (.cells #[a, b, c, d, e] 43 (0, 0)) := h
  simp [Blk5, World.setCell, Array.getElem?_modify, h']
end
/-- The answer is stored: what is left. -/
theorem Gt6.answer {w W : World} {B : Nat} {st : St} {a b c d e : Value} (h : Gt6 w B st a b c d e W) (a' b' c' d' e' : Value) :
    Rdr (set5 W w.heap.size a' b' c' d' e') B st ∧ Turns (fun i => i = B) w (set5 W w.heap.size a' b' c' d' e') ∧ Blk5 (set5 W w.heap.size a' b' c' d' e') w.heap.size a' b' c' d' e' := by
  refine ⟨?_, turns_set5 h.t w.heap.size (fun hl => absurd hl (by omega)) _ _ _ _ _, Blk5.set5 h.z _ _ _ _ _⟩
  have h0 := rdr_apart (j := 0) h.rdr h.z a'
  have z0 := Blk5.set0 h.z a'
  have h1 := rdr_apart (j := 1) h0 z0 b'
  have z1 := z0.set1 b'
  have h2 := rdr_apart (j := 2) h1 z1 c'
  have z2 := z1.set2 c'
  have h3 := rdr_apart (j := 3) h2 z2 d'
  have z3 := z2.set3 d'
  exact rdr_apart (j := 4) h3 z3 e'
end Go.Proofs.YtoeepbmbfambcaaGreatDoor

namespace Go.Proofs.YtoeepbmbfambcaaGreatDoor
open Go.RowKit

section
variable {P : Program} {ops : Array Oper} {Q : Exit → Act → World → Prop} {md : Region.Mode}

theorem all_listed2 {listed : Array Bool} (hsz : listed.size = ops.size) (back : ∀ (i : Nat) (o : Oper), ops[i]? = some o → ∀ e ∈ o.after, Region.binds md e = true → e.on < i) (h : Region.ready md ops listed = []) :
    ∀ j, j < ops.size → listed.getD j false = true := by
  intro j
  induction j using Nat.strongRecOn with
  | _ j ih =>
    intro hj
    cases hl : listed.getD j false with
    | true => rfl
    | false =>
      exfalso
      have hm : j ∈ Region.ready md ops listed := by
        rw [mem_ready]
        refine ⟨?_, ops[j], Array.getElem?_eq_getElem hj, fun e he hb => ih e.on (back j _ (Array.getElem?_eq_getElem hj) e he hb) (Nat.lt_trans (back j _ (Array.getElem?_eq_getElem hj) e he hb) hj)⟩
        have hlt : j < listed.size := by omega
        simpa [Array.getD_eq_getD_getElem?, Array.getElem?_eq_getElem hlt] using hl
      rw [h] at hm
      cases hm

theorem wpAny_gen (a : Act) (I : (Nat → Bool) → (Nat → Value) → World → Prop) (hap : apartL (ops.toList.map (·.dst)) = true)
    (back : ∀ (i : Nat) (o : Oper), ops[i]? = some o → ∀ e ∈ o.after, Region.binds md e = true → e.on < i)
    (step : ∀ (i : Nat) (o : Oper), ops[i]? = some o → ∀ (L : Nat → Bool) (x : Nat → Value) (w : World), L i = false → (∀ d, (o.after.toList.any fun e => Region.binds md e && e.on == d) = true → L d = true) → I L x w →
      ∀ K : Act → World → Prop, (∀ v w', I (updL L i) (upd x i v) w' → K ((putL (ops.toList.map (·.dst)) x 0 a).put o.dst v) w') →
        if Region.wanted o (yielded ops (putL (ops.toList.map (·.dst)) x 0 a).tmps) = true then Oper.wp P o (putL (ops.toList.map (·.dst)) x 0 a) w K Q else K ((putL (ops.toList.map (·.dst)) x 0 a).put o.dst undef) w)
    (fin : ∀ (L : Nat → Bool) (x : Nat → Value) (w : World), (∀ j, j < ops.size → L j = true) → I L x w → Q .normal (putL (ops.toList.map (·.dst)) x 0 a) w) :
    ∀ (fuel : Nat) (listed : Array Bool) (x : Nat → Value) (w : World), listed.size = ops.size → listed.toList.count false ≤ fuel → I (fun j => listed.getD j false) x w →
      wpAny P md ops Q fuel listed (putL (ops.toList.map (·.dst)) x 0 a) w := by
  intro fuel
  induction fuel with
  | zero =>
    intro listed x w hsz hc hI
    have hall : ∀ j, j < ops.size → listed.getD j false = true := by
      intro j hj
      cases hl : listed.getD j false with
      | true => rfl
      | false =>
        exfalso
        have hlt : j < listed.size := by omega
        have : false ∈ listed.toList := by
          rw [List.mem_iff_getElem]
          exact ⟨j, by simpa using hlt, by simpa [Array.getD_eq_getD_getElem?, Array.getElem?_eq_getElem hlt] using hl⟩
        have := List.count_pos_iff.2 this
        omega
    refine ⟨?_, fin _ x w hall hI⟩
    rw [List.eq_nil_iff_forall_not_mem]
    intro j hj
    rw [mem_ready] at hj
    obtain ⟨h0, o, ho, _⟩ := hj
    have hj' := (Array.getElem?_eq_some_iff.1 ho).1
    have := hall j hj'
    have hlt : j < listed.size := by omega
    simp [Array.getD_eq_getD_getElem?, Array.getElem?_eq_getElem hlt] at h0 this
    rw [h0] at this
    cases this
  | succ fuel ih =>
    intro listed x w hsz hc hI
    refine ⟨fun hr => fin _ x w (all_listed2 hsz back hr) hI, fun i hi => ?_⟩
    have hi' := hi
    rw [mem_ready] at hi'
    obtain ⟨h0, o, ho, hdep⟩ := hi'
    have hlt : i < listed.size := by have := (Array.getElem?_eq_some_iff.1 ho).1; omega
    have hfalse : listed[i] = false := by simpa [Array.getD_eq_getD_getElem?, Array.getElem?_eq_getElem hlt] using h0
    have hdeps : ∀ d, (o.after.toList.any fun e => Region.binds md e && e.on == d) = true → listed.getD d false = true := by
      intro j hj
      rw [List.any_eq_true] at hj
      obtain ⟨e, he, hb⟩ := hj
      simp only [Bool.and_eq_true, beq_iff_eq] at hb
      obtain ⟨hb1, rfl⟩ := hb
      exact hdep e (by simpa using he) hb1
    have hupd : (fun j => (listed.setIfInBounds i true).getD j false) = updL (fun j => listed.getD j false) i := by
      funext j
      unfold updL
      by_cases e : j = i
      · subst e; simp [hlt]
      · rw [if_neg e, getD_set_ne false (Ne.symm e)]
    have hs := step i o ho (fun j => listed.getD j false) x w (by simp [Array.getD_eq_getD_getElem?, Array.getElem?_eq_getElem hlt, hfalse]) hdeps hI (wpAny P md ops Q fuel (listed.setIfInBounds i true)) (by
      intro v w' hI'
      have hd : (ops.toList.map (·.dst))[i]? = some o.dst := by simp [ho]
      rw [putL_upd hap hd, Nat.zero_add]
      refine ih _ _ _ (by simpa using hsz) ?_ ?_
      · have hcs := List.count_set (a := true) (b := false) (l := listed.toList) (i := i) (by simpa using hlt)
        have hpos : 0 < listed.toList.count false := List.count_pos_iff.2 (by rw [← hfalse]; simp)
        rw [Array.toList_setIfInBounds, hcs, show listed.toList[i]'(by simpa using hlt) = false from by simpa using hfalse, if_pos (by rfl), if_neg (by decide)]
        omega
      · rw [hupd]; exact hI')
    unfold wpOp
    rw [ho]
    by_cases hw : Region.wanted o (yielded ops (putL (ops.toList.map (·.dst)) x 0 a).tmps) = true
    · rw [if_pos hw] at hs
      simp only [hw, if_true]
      exact .inl hs
    · rw [if_neg hw] at hs
      simp only [hw]
      exact hs

/-- THE REGION, its frame written out ('F'), its operations one by one. -/
theorem wp_region_gen {id : Nat} {w : World} {a : Act} (hm : P.follows .mixedOrders = true) (I : (Nat → Bool) → (Nat → Value) → World → Prop) (F : (Nat → Value) → Act) (hF : ∀ x, putL (ops.toList.map (·.dst)) x 0 a = F x)
    (hap : apartL (ops.toList.map (·.dst)) = true) (hback : (ops.toList.zipIdx.all fun p => p.1.after.all fun e => !(Region.binds .any e) || decide (e.on < p.2)) = true) (hI : ∀ x, I (fun _ => false) x w.drew)
    (step : AllO (fun i o => ∀ (L : Nat → Bool) (x : Nat → Value) (w : World), L i = false → (∀ d, (o.after.toList.any fun e => Region.binds .any e && e.on == d) = true → L d = true) → I L x w →
      ∀ K : Act → World → Prop, (∀ v w', I (updL L i) (upd x i v) w' → K ((F x).put o.dst v) w') →
        if Region.wanted o (yielded ops (F x).tmps) = true then Oper.wp P o (F x) w K Q else K ((F x).put o.dst undef) w) ops.toList 0)
    (fin : ∀ (L : Nat → Bool) (x : Nat → Value) (w : World), (∀ j, j < ops.size → L j = true) → I L x w → Q .normal (F x) w) : (Code.region id ops true).wp P Q a w := by
  refine wp_region_any hm ?_
  have hb : ∀ (i : Nat) (o : Oper), ops[i]? = some o → ∀ e ∈ o.after, Region.binds .any e = true → e.on < i := by
    intro i o ho e he hbd
    have hin : (o, i) ∈ ops.toList.zipIdx := by
      rw [List.mem_zipIdx_iff_getElem?]
      simpa using ho
    have := List.all_eq_true.1 hback _ hin
    have := Array.all_eq_true_iff_forall_mem.1 this e he
    rw [hbd] at this
    simpa using this
  have h0 : (fun j => (Array.replicate ops.size false).getD j false) = fun _ => false := by
    funext j
    by_cases h : j < ops.size <;> simp [Array.getD_eq_getD_getElem?, h]
  have := wpAny_gen (P := P) (md := .any) (Q := Q) a I hap hb (fun i o ho L x w h1 h2 h3 K hK => by
      have hs := step.at_ i o (by simpa using ho)
      rw [Nat.zero_add] at hs
      rw [hF] at hK ⊢
      exact hs L x w h1 h2 h3 K hK) (fun L x w h1 h2 => by rw [hF]; exact fin L x w h1 h2) ops.size (Array.replicate ops.size false) (fun i => ownAt a (((ops.toList.map (·.dst))[i]?).getD none)) w.drew (by simp) (by simp)
      (by rw [h0]; exact hI _)
  rw [putL_own (fun i d hd => by rw [Nat.zero_add, hd]; rfl)] at this
  exact this

/-- The same by what each operation makes ('Y'), and what is known of the world by what has been carried out ('G'). -/
theorem wp_region_st2 {id : Nat} {w : World} {a : Act} (hm : P.follows .mixedOrders = true) (Y : Nat → Value → World → Prop) (G : (Nat → Bool) → World → Prop) (F : (Nat → Value) → Act) (hF : ∀ x, putL (ops.toList.map (·.dst)) x 0 a = F x)
    (hap : apartL (ops.toList.map (·.dst)) = true) (hback : (ops.toList.zipIdx.all fun p => p.1.after.all fun e => !(Region.binds .any e) || decide (e.on < p.2)) = true) (hG : G (fun _ => false) w.drew)
    (step : AllO (fun i o => ∀ (L : Nat → Bool) (x : Nat → Value) (w : World), L i = false → (∀ d, (o.after.toList.any fun e => Region.binds .any e && e.on == d) = true → L d = true) → G L w → (∀ j, (o.after.toList.any fun e => Region.binds .any e && e.on == j) = true → Y j (x j) w) →
      ∀ K : Act → World → Prop, (∀ v w', Y i v w' → G (updL L i) w' → (∀ j, L j = true → Y j (x j) w → Y j (x j) w') → K ((F x).put o.dst v) w') →
        if Region.wanted o (yielded ops (F x).tmps) = true then Oper.wp P o (F x) w K Q else K ((F x).put o.dst undef) w) ops.toList 0)
    (fin : ∀ (L : Nat → Bool) (x : Nat → Value) (w : World), (∀ j, j < ops.size → L j = true) → G L w → (∀ j, j < ops.size → Y j (x j) w) → Q .normal (F x) w) : (Code.region id ops true).wp P Q a w :=
  wp_region_gen hm (fun L x W => G L W ∧ ∀ j, L j = true → Y j (x j) W) F hF hap hback (fun _ => ⟨hG, fun _ h => by cases h⟩)
    (step.mono fun i o h L x w h1 h2 ⟨h3, h4⟩ K hK => h L x w h1 h2 h3 (fun j hj => h4 j (h2 j hj)) K fun v w' hy hg hk => hK v w' ⟨hg, fun j hj => by
      by_cases e : j = i
      · subst e
        rw [show upd x j v j = v from if_pos rfl]
        exact hy
      · rw [show upd x i v j = x j from if_neg e]
        rw [show updL L i j = L j from if_neg e] at hj
        exact hk j hj (h4 j hj)⟩)
    (fun L x w h1 ⟨h2, h3⟩ => fin L x w h1 h2 fun j hj => h3 j (h1 j hj))
end
end Go.Proofs.YtoeepbmbfambcaaGreatDoor

namespace Go.Proofs.YtoeepbmbfambcaaGreatDoor
open Go.RowKit

section
variable {P : Program} {ops : Array Oper} {Q : Exit → Act → World → Prop}
/-- As wp_region_inv, where operation k overwrites a slot that held y. -/
theorem wp_region_own {id : Nat} {w : World} {a : Act} (hm : P.follows .mixedOrders = true) (R : World → Prop) (Y : Nat → Value → World → Prop) (k : Nat) (y : Value) (F : (Nat → Value) → Act) (hF : ∀ x, putL (ops.toList.map (·.dst)) x 0 a = F x)
    (hap : apartL (ops.toList.map (·.dst)) = true) (hback : (ops.toList.zipIdx.all fun p => p.1.after.all fun e => !(Region.binds .any e) || decide (e.on < p.2)) = true) (hR : R w.drew)
    (hy : ownAt a (((ops.toList.map (·.dst))[k]?).getD none) = y)
    (hk : ((List.range k).all fun d => (ops.toList[k]?.map fun o => o.after.toList.any fun e => Region.binds .any e && e.on == d).getD false) = true)
    (step : AllO (fun i o => ∀ (x : Nat → Value) (w : World), R w → (i < k → x k = y) → (∀ j, (o.after.toList.any fun e => Region.binds .any e && e.on == j) = true → Y j (x j) w) →
      ∀ K : Act → World → Prop, (∀ v w', Y i v w' → R w' → (∀ j u, Y j u w → Y j u w') → K ((F x).put o.dst v) w') →
        if Region.wanted o (yielded ops (F x).tmps) = true then Oper.wp P o (F x) w K Q else K ((F x).put o.dst undef) w) ops.toList 0)
    (fin : ∀ (x : Nat → Value) (w : World), R w → (∀ j, j < ops.size → Y j (x j) w) → Q .normal (F x) w) : (Code.region id ops true).wp P Q a w := by
  refine wp_region_any hm ?_
  have hb : ∀ (i : Nat) (o : Oper), ops[i]? = some o → ∀ e ∈ o.after, Region.binds .any e = true → e.on < i := by
    intro i o ho e he hbd
    have hin : (o, i) ∈ ops.toList.zipIdx := by
      rw [List.mem_zipIdx_iff_getElem?]
      simpa using ho
    have := List.all_eq_true.1 hback _ hin
    have := Array.all_eq_true_iff_forall_mem.1 this e he
    rw [hbd] at this
    simpa using this
  have h0 : (fun j => (Array.replicate ops.size false).getD j false) = fun _ => false := by
    funext j
    by_cases h : j < ops.size <;> simp [Array.getD_eq_getD_getElem?, h]
  have hkd : ∀ o, ops[k]? = some o → ∀ d, d < k → (o.after.toList.any fun e => Region.binds .any e && e.on == d) = true := by
    intro o ho d hd
    have := List.all_eq_true.1 hk d (List.mem_range.2 hd)
    have ho' : ops.toList[k]? = some o := by simpa using ho
    rw [ho'] at this
    exact this
  have := wpAny_gen (P := P) (md := .any) (Q := Q) a (fun L x W => R W ∧ (∀ j, L j = true → Y j (x j) W) ∧ (L k = false → x k = y) ∧ (L k = true → ∀ j, j < k → L j = true)) hap hb (fun i o ho L x w h1 h2 h3 K hK => by
      obtain ⟨hr, hY, hx, hc⟩ := h3
      have hs := step.at_ i o (by simpa using ho)
      rw [Nat.zero_add] at hs
      rw [hF] at hK ⊢
      refine hs x w hr (fun hik => hx ?_) (fun j hj => hY j (h2 j hj)) K (fun v w' hv hr' hkeep => hK v w' ⟨hr', fun j hj => ?_, fun hl => ?_, fun hl j hj => ?_⟩)
      · cases hLk : L k with
        | false => rfl
        | true => rw [hc hLk i hik] at h1; cases h1
      · by_cases e : j = i
        · subst e
          rw [show upd x j v j = v from if_pos rfl]
          exact hv
        · rw [show upd x i v j = x j from if_neg e]
          rw [show updL L i j = L j from if_neg e] at hj
          exact hkeep j _ (hY j hj)
      · by_cases e : k = i
        · rw [show updL L i k = true from if_pos e] at hl; cases hl
        · rw [show updL L i k = L k from if_neg e] at hl
          rw [show upd x i v k = x k from if_neg e]
          exact hx hl
      · by_cases ej : j = i
        · exact if_pos ej
        · rw [show updL L i j = L j from if_neg ej]
          by_cases e : k = i
          · subst e
            exact h2 j (hkd o ho j hj)
          · rw [show updL L i k = L k from if_neg e] at hl
            exact hc hl j hj) (fun L x w h1 h2 => by rw [hF]; exact fin x w h2.1 (fun j hj => h2.2.1 j (h1 j hj))) ops.size (Array.replicate ops.size false) (fun i => ownAt a (((ops.toList.map (·.dst))[i]?).getD none)) w.drew (by simp) (by simp)
      (by rw [h0]; exact ⟨hR, fun _ h => by (cases h), fun _ => hy, fun h => by (cases h)⟩)
  rw [putL_own (fun i d hd => by rw [Nat.zero_add, hd]; rfl)] at this
  exact this
end
end Go.Proofs.YtoeepbmbfambcaaGreatDoor

namespace Go.Proofs.YtoeepbmbfambcaaGreatDoor
open Go.RowKit

/-- What each operation makes. -/
def YTxA (B : Nat) (u : Us) (t1 t2 t3 : ByteArray) : Nat → Value → World → Prop
  | 0, v, _ => v = .pointer (some ⟨B, 0, none⟩)
  | 1, v, _ => v = .string u.nm
  | 2, v, _ => v = .string t1
  | 3, v, _ => v = .pointer (some ⟨B, 1, none⟩)
  | 4, v, _ => v = .string u.hs
  | 5, v, _ => v = .string t2
  | 6, v, _ => v = .string t3
  | _, v, _ => v = .string t3
theorem YTxA_keep {B : Nat} {u : Us} {t1 t2 t3 : ByteArray} {W W' : World} (j : Nat) (z : Value) (h : YTxA B u t1 t2 t3 j z W) : YTxA B u t1 t2 t3 j z W' := by
  match j, h with
  | 0, h => exact h
  | 1, h => exact h
  | 2, h => exact h
  | 3, h => exact h
  | 4, h => exact h
  | 5, h => exact h
  | 6, h => exact h
  | _ + 7, h => exact h
/-- What each operation makes. -/
def YTxB (B : Nat) (u : Us) (t3 t4 t5 t6 t7 t8 t9 : ByteArray) : Nat → Value → World → Prop
  | 0, v, _ => v = .string t3
  | 1, v, _ => v = .pointer (some ⟨B, 2, none⟩)
  | 2, v, _ => v = .string u.ml
  | 3, v, _ => v = .string t4
  | 4, v, _ => v = .string t5
  | 5, v, _ => v = .pointer (some ⟨B, 3, none⟩)
  | 6, v, _ => v = .bool u.dis
  | 7, v, _ => v = .string t6
  | 8, v, _ => v = .string t7
  | 9, v, _ => v = .pointer (some ⟨B, 4, none⟩)
  | 10, v, _ => v = .slice u.ga u.gs.length u.gc
  | 11, v, _ => v = .string t8
  | 12, v, _ => v = .string t9
  | _, v, _ => v = .string t9
theorem YTxB_keep {B : Nat} {u : Us} {t3 t4 t5 t6 t7 t8 t9 : ByteArray} {W W' : World} (j : Nat) (z : Value) (h : YTxB B u t3 t4 t5 t6 t7 t8 t9 j z W) : YTxB B u t3 t4 t5 t6 t7 t8 t9 j z W' := by
  match j, h with
  | 0, h => exact h
  | 1, h => exact h
  | 2, h => exact h
  | 3, h => exact h
  | 4, h => exact h
  | 5, h => exact h
  | 6, h => exact h
  | 7, h => exact h
  | 8, h => exact h
  | 9, h => exact h
  | 10, h => exact h
  | 11, h => exact h
  | 12, h => exact h
  | _ + 13, h => exact h
/-- A text of these bytes. -/
def mk6 (l : List UInt8) : ByteArray := ⟨l.toArray⟩
theorem rowB_little (u : Us) (h : u.Little) : (rowB u.gs).length ≤ 100 := by
  have : ∀ (gs : List ByteArray), (∀ s ∈ gs, s.size ≤ 12) → (textsB gs).length ≤ 14 * gs.length := fun gs => by
    induction gs with
    | nil => intro _; simp [textsB]
    | cons g gs ih =>
      intro hs
      have h1 := ih (fun s h => hs s (List.mem_cons_of_mem _ h))
      have h2 := hs g (List.mem_cons_self ..)
      have h3 : (textsB (g :: gs)).length = (textB g).length + (textsB gs).length := by simp [textsB]
      rw [h3, textB_length, List.length_cons]
      omega
  have h1 := this u.gs h.all
  have h2 := h.len
  rw [rowB, List.length_append, le_length]
  omega

set_option maxRecDepth 100000 in
set_option maxHeartbeats 2000000 in
theorem rtext6_calls (s : Int) (u : Us) (w : World) (h : u.Ok w) (hl : u.Little) :
    Calls Tryz.prog 51 #[.int .i64 s, u.v] w fun e w' => e = .returned (.string (mk6 (userB s u))) ∧ Below w.heap.size w w' := by
  have n1 := hl.nm
  have n2 := hl.hs
  have n3 := hl.ml
  have n4 := rowB_little u hl
  have htl : ∀ t : ByteArray, (textB t).length = t.size + 2 := textB_length
  have HT : Hid (∀ (t : ByteArray) W, t.size ≤ 20 → Calls Tryz.prog 78 #[.string t] W fun e w' => e = .returned (.string (mk6 (textB t))) ∧ Turns (fun _ => False) W w') := fun t W ht => reftext_calls t W (by omega)
  have HTR : Hid (∀ W, Calls Tryz.prog 79 #[.bool u.dis] W fun e w' => e = .returned (.string (mk6 (le u.dis.toNat 1))) ∧ Turns (fun _ => False) W w') := fun W => reftruth_calls u.dis W
  have HRO : Hid (∀ W, Below w.heap.size w W → Calls Tryz.prog 80 #[.slice u.ga u.gs.length u.gc] W fun e w' => e = .returned (.string (mk6 (rowB u.gs))) ∧ Turns (fun _ => False) W w') := fun W hb => refrow_calls u.ga u.gc u.gs W (h.rd.below hb) (by have := hl.len; omega) (fun s hs => by have := hl.all s hs; omega)
  have HA1 : Hid (∀ W, (Op.stringOp .add (mk6 (textB u.nm)) (mk6 (textB u.hs))).run Tryz.prog W = .ok (.string (mk6 (textB u.nm ++ textB u.hs))) W) := fun W => add_str W _ _ (by rw [htl, htl]; omega)
  have HA2 : Hid (∀ W, (Op.stringOp .add (mk6 (textB u.nm ++ textB u.hs)) (mk6 (textB u.ml))).run Tryz.prog W = .ok (.string (mk6 (textB u.nm ++ textB u.hs ++ textB u.ml))) W) := fun W => add_str W _ _ (by simp only [List.length_append, htl]; omega)
  have HA3 : Hid (∀ W, (Op.stringOp .add (mk6 (textB u.nm ++ textB u.hs ++ textB u.ml)) (mk6 (le u.dis.toNat 1))).run Tryz.prog W = .ok (.string (mk6 (textB u.nm ++ textB u.hs ++ textB u.ml ++ le u.dis.toNat 1))) W) := fun W => add_str W _ _ (by simp only [List.length_append, htl, le_length]; omega)
  have HA4 : Hid (∀ W, (Op.stringOp .add (mk6 (textB u.nm ++ textB u.hs ++ textB u.ml ++ le u.dis.toNat 1)) (mk6 (rowB u.gs))).run Tryz.prog W = .ok (.string (mk6 (textB u.nm ++ textB u.hs ++ textB u.ml ++ le u.dis.toNat 1 ++ rowB u.gs))) W) := fun W => add_str W _ _ (by simp only [List.length_append, htl, le_length]; omega)
  have HU : Hid (userB s u = if s = 2 then textB u.nm ++ textB u.hs ++ textB u.ml ++ le u.dis.toNat 1 ++ rowB u.gs else textB u.nm ++ textB u.hs) := by
    show _ = _
    unfold userB
    split
    · simp only [List.append_assoc]
    · rw [List.append_nil]
  obtain ⟨rt, hrt⟩ : ∃ rt, rt = mk6 (userB s u) := ⟨_, rfl⟩
  rw [← hrt]
  have HRT : Hid (rt = if s = 2 then mk6 (textB u.nm ++ textB u.hs ++ textB u.ml ++ le u.dis.toNat 1 ++ rowB u.gs) else mk6 (textB u.nm ++ textB u.hs)) := by
    show _ = _
    rw [hrt, HU.out]
    split <;> rfl
  have HTN := Lib.hid (fun W => HT.out u.nm W (by omega))
  have HTH := Lib.hid (fun W => HT.out u.hs W (by omega))
  have HTM := Lib.hid (fun W => HT.out u.ml W (by omega))
  have HB0 := Lib.hid (below_alloc (Below.refl w.heap.size w) (.cells #[.string u.nm, .string u.hs, .string u.ml, .bool u.dis, .slice u.ga u.gs.length u.gc] 43))
  have HA := Lib.hid (UsAt.new w u 43)
  clear h hl hrt HU htl n1 n2 n3 n4 HT
  generalize mk6 (textB u.nm ++ textB u.hs ++ textB u.ml ++ le u.dis.toNat 1 ++ rowB u.gs) = t9 at *
  generalize mk6 (textB u.nm ++ textB u.hs ++ textB u.ml ++ le u.dis.toNat 1) = t7 at *
  generalize mk6 (textB u.nm ++ textB u.hs ++ textB u.ml) = t5 at *
  generalize mk6 (textB u.nm ++ textB u.hs) = t3 at *
  generalize mk6 (textB u.nm) = t1 at *
  generalize mk6 (textB u.hs) = t2 at *
  generalize mk6 (textB u.ml) = t4 at *
  generalize mk6 (le u.dis.toNat 1) = t6 at *
  generalize mk6 (rowB u.gs) = t8 at *
  show Calls _ _ #[.int .i64 s, .agg #[.string u.nm, .string u.hs, .string u.ml, .bool u.dis, .slice u.ga u.gs.length u.gc]] _ _
  go_enter Tryz.func51, Tryz.ntmps51
  go_wp2_with fail
  generalize w.alloc (.cells #[.string u.nm, .string u.hs, .string u.ml, .bool u.dis, .slice u.ga u.gs.length u.gc] 43) = w1 at *
  refine wp_region_inv (by kernel_rfl) (fun W => Below w1.heap.size w1 W) (YTxA w.heap.size u t1 t2 t3) ?F ?hF (by kernel_rfl) (by kernel_rfl) (below_drew (Below.refl _ _)) ?step ?fin
  case hF =>
    intro x
    simp only [List.map_cons, List.map_nil, putL, Act.put, List.setIfInBounds_toArray, List.set_cons_zero, List.set_cons_succ, Nat.zero_add, Nat.reduceAdd]
    exact rfl
  case step =>
    refine ⟨?_, ?_, ?_, ?_, ?_, ?_, ?_, ?_, trivial⟩
    all_goals intro x W hW hdep K hK
    · clear hdep
      go_simp
      exact hK _ _ rfl hW (fun _ _ h => h)
    · have h0 : x 0 = _ := hdep 0 rfl
      have c := (HA.out.below hW).c0
      clear hdep
      simp only [h0] at hK
      go_simp
      exact hK _ _ rfl hW (fun _ _ h => h)
    · have h1 : x 1 = _ := hdep 1 rfl
      clear hdep
      simp only [h1] at hK
      go_simp
      refine (HTN.out W).mono ?_
      rintro e W' ⟨rfl, ht⟩
      have hb := ht.below (fun _ f => f.elim)
      exact hK _ _ rfl (below_next hW hb) (fun j z h => YTxA_keep j z h)
    · clear hdep
      go_simp
      exact hK _ _ rfl hW (fun _ _ h => h)
    · have h3 : x 3 = _ := hdep 3 rfl
      have c := (HA.out.below hW).c1
      clear hdep
      simp only [h3] at hK
      go_simp
      exact hK _ _ rfl hW (fun _ _ h => h)
    · have h4 : x 4 = _ := hdep 4 rfl
      clear hdep
      simp only [h4] at hK
      go_simp
      refine (HTH.out W).mono ?_
      rintro e W' ⟨rfl, ht⟩
      have hb := ht.below (fun _ f => f.elim)
      exact hK _ _ rfl (below_next hW hb) (fun j z h => YTxA_keep j z h)
    · have h2 : x 2 = _ := hdep 2 rfl
      have h5 : x 5 = _ := hdep 5 rfl
      have ha := HA1.out W
      clear hdep
      simp only [h2, h5] at hK
      go_simp
      exact hK _ _ rfl hW (fun _ _ h => h)
    · have h6 : x 6 = _ := hdep 6 rfl
      clear hdep
      simp only [h6] at hK
      go_simp
      exact hK _ _ rfl hW (fun _ _ h => h)
  case fin =>
    intro x W hW hY
    have h7 : x 7 = .string t3 := hY 7 (by decide)
    clear hY
    rw [h7]
    clear h7
    have HB2 := Lib.hid (below_next HB0.out hW)
    have HA5 := Lib.hid (HA.out.below hW)
    clear hW HB0 HA
    have HB0 := HB2
    have HA := HA5
    clear HB2 HA5
    by_cases h2 : s = 2
    · have hrt : rt = t9 := by rw [HRT.out, if_pos h2]
      subst hrt
      subst h2
      clear HRT
      go_wp2_with fail
      refine wp_region_own (by kernel_rfl) (fun W' => Below W.heap.size W W') (YTxB w.heap.size u t3 t4 t5 t6 t7 t8 rt) 13 (.string t3) ?F2 ?hF2 (by kernel_rfl) (by kernel_rfl) (below_drew (Below.refl _ _)) rfl (by kernel_rfl) ?step2 ?fin2
      case hF2 =>
        intro x
        simp only [List.map_cons, List.map_nil, putL, Act.put, List.setIfInBounds_toArray, List.set_cons_zero, List.set_cons_succ, Nat.zero_add, Nat.reduceAdd]
        exact rfl
      case step2 =>
        refine ⟨?_, ?_, ?_, ?_, ?_, ?_, ?_, ?_, ?_, ?_, ?_, ?_, ?_, ?_, trivial⟩
        all_goals intro x W hW hown hdep K hK
        · have h13 : x 13 = _ := hown (by decide)
          clear hown
          clear hdep
          simp only [h13] at hK
          go_simp
          exact hK _ _ rfl hW (fun _ _ h => h)
        · clear hown
          clear hdep
          go_simp
          exact hK _ _ rfl hW (fun _ _ h => h)
        · have h1 : x 1 = _ := hdep 1 rfl
          clear hown
          have c := (HA.out.below hW).c2
          clear hdep
          simp only [h1] at hK
          go_simp
          exact hK _ _ rfl hW (fun _ _ h => h)
        · have h2 : x 2 = _ := hdep 2 rfl
          clear hown
          clear hdep
          simp only [h2] at hK
          go_simp
          refine (HTM.out W).mono ?_
          rintro e W' ⟨rfl, ht⟩
          have hb := ht.below (fun _ f => f.elim)
          exact hK _ _ rfl (below_next hW hb) (fun j z h => YTxB_keep j z h)
        · have h0 : x 0 = _ := hdep 0 rfl
          have h3 : x 3 = _ := hdep 3 rfl
          clear hown
          have ha := HA2.out W
          clear hdep
          simp only [h0, h3] at hK
          go_simp
          exact hK _ _ rfl hW (fun _ _ h => h)
        · clear hown
          clear hdep
          go_simp
          exact hK _ _ rfl hW (fun _ _ h => h)
        · have h5 : x 5 = _ := hdep 5 rfl
          clear hown
          have c := (HA.out.below hW).c3
          clear hdep
          simp only [h5] at hK
          go_simp
          exact hK _ _ rfl hW (fun _ _ h => h)
        · have h6 : x 6 = _ := hdep 6 rfl
          clear hown
          clear hdep
          simp only [h6] at hK
          go_simp
          refine (HTR.out W).mono ?_
          rintro e W' ⟨rfl, ht⟩
          have hb := ht.below (fun _ f => f.elim)
          exact hK _ _ rfl (below_next hW hb) (fun j z h => YTxB_keep j z h)
        · have h4 : x 4 = _ := hdep 4 rfl
          have h7 : x 7 = _ := hdep 7 rfl
          clear hown
          have ha := HA3.out W
          clear hdep
          simp only [h4, h7] at hK
          go_simp
          exact hK _ _ rfl hW (fun _ _ h => h)
        · clear hown
          clear hdep
          go_simp
          exact hK _ _ rfl hW (fun _ _ h => h)
        · have h9 : x 9 = _ := hdep 9 rfl
          clear hown
          have c := (HA.out.below hW).c4
          clear hdep
          simp only [h9] at hK
          go_simp
          exact hK _ _ rfl hW (fun _ _ h => h)
        · have h10 : x 10 = _ := hdep 10 rfl
          clear hown
          clear hdep
          simp only [h10] at hK
          go_simp
          refine (HRO.out W (below_next HB0.out hW)).mono ?_
          rintro e W' ⟨rfl, ht⟩
          have hb := ht.below (fun _ f => f.elim)
          exact hK _ _ rfl (below_next hW hb) (fun j z h => YTxB_keep j z h)
        · have h8 : x 8 = _ := hdep 8 rfl
          have h11 : x 11 = _ := hdep 11 rfl
          clear hown
          have ha := HA4.out W
          clear hdep
          simp only [h8, h11] at hK
          go_simp
          exact hK _ _ rfl hW (fun _ _ h => h)
        · have h12 : x 12 = _ := hdep 12 rfl
          clear hown
          clear hdep
          simp only [h12] at hK
          go_simp
          exact hK _ _ rfl hW (fun _ _ h => h)
      case fin2 =>
        intro x W hW hY
        have h13 : x 13 = .string rt := hY 13 (by decide)
        clear hY
        have HF := Lib.hid (below_next HB0.out hW)
        clear hW
        rw [h13]
        go_wp2
        go_ret
        exact ⟨rfl, HF.out⟩
    · have hrt : rt = t3 := by rw [HRT.out, if_neg h2]
      subst hrt
      have h2d : (s == 2) = false := by simpa using h2
      clear HRT
      go_wp2
      go_ret
      exact ⟨rfl, HB0.out⟩
end Go.Proofs.YtoeepbmbfambcaaGreatDoor
