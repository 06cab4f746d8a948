/-
  The texts that the laws of this seat share, part 1: what the code and the document's own answers tell, walked function by function.
  Conditions: each theorem's own.
-/
import Derived.WalkKit
import Derived.Deep.Draws
import Derived.Deep.LoopGhost
import Derived.Shelf.Abstract
import Derived.Lib.Hide
import Derived.Test.YthlgmkfofebbfaaGreatDoorProg
import Derived.BigQuiet
import Derived.Maps.OwnSet
import Derived.Maps.StringElems
import Derived.Sort.KeysCollected
import Derived.Lib.Bytealg
import Derived.Deep.AppendSrc
import Derived.Deep.AppendLies
import Derived.Deep.RegionLaw
import Derived.Laws.IdiomStrings
import Derived.StringKeys
import Derived.Shelf.SlMaps.Clone
import Derived.Shelf.SlIter.Collect
import Derived.Lib.IndexBytes
import Derived.Lib.SplitLaws
import Derived.Lib.CountLaws
import Derived.Shelf.Small.Bits
import Derived.Shelf.Small.Strs
import Derived.Shelf.Strconv.Itoa0
import Derived.Shelf.LaysM
import Derived.Shelf.Strconv.Clone
import Derived.Shelf.Strings.Search1
import Derived.Shelf.Strings.Search2
import Derived.Shelf.Strings.Search3
import Derived.Shelf.Strings.Cut
import Derived.Shelf.Strings.Count
import Derived.Shelf.Strings.Shaped
import Derived.Shelf.Strings.Prefix
import Derived.Shelf.Strings.Split
import Derived.Shelf.Strings.SplitShaped
import Derived.Shelf.Unicode.DecodeSlow
import Derived.Shelf.Slices.Equal
import Derived.Shelf.Slices.Empties2
import Derived.Ground.SlgnProg
import Derived.Shelf.SlicesE.Equal
import Derived.Ground.SlgfProg
import Derived.Shelf.SlicesE.IndexFunc
import Derived.Shelf.SlicesE.DeleteFunc
import Derived.Ground.SlsfProg
import Derived.Shelf.SlSortCmp.Insertion
import Derived.Shelf.SlSortCmp.SiftDown1
import Derived.Shelf.SlSortCmp.HeapSort1
import Derived.Shelf.SlSortCmp.Insertion1
import Derived.Shelf.SlSortCmp.Median1
import Derived.Shelf.SlSortCmp.Pivot1
import Derived.Shelf.SlSortCmp.ReverseRange1
import Derived.Shelf.SlSortCmp.PartialInsertion1
import Derived.Shelf.SlSortCmp.PartitionEqual1
import Derived.Shelf.SlSortCmp.Partition1
import Derived.Ground.GgzProg
import Derived.Shelf.SlIter.Nil
import Derived.Ground.SlmcProg
import Derived.WideKeyEntry
import Derived.Orders
namespace Go.Proofs.YthlgmkfofebbfaaGreatDoor
open Go.RowKit Go.Shelf

theorem below_next {a b c : World} (h : Below a.heap.size a b) (k : Below b.heap.size b c) : Below a.heap.size a c := h.trans (k.mono h.size)
theorem below_drewN {a w : World} (h : Below a.heap.size a w) (q : Nat) : Below a.heap.size a (w.drewN q) := ⟨h.os, h.tape, h.output, h.size, h.block⟩
theorem below_drew {a w : World} (h : Below a.heap.size a w) : Below a.heap.size a w.drew := ⟨h.os, h.tape, h.output, h.size, h.block⟩
theorem below_alloc {a w : World} (h : Below a.heap.size a w) (o : Obj) : Below a.heap.size a (w.alloc o) := h.alloc h.size o

def encB (b : UInt8) : Value := .int .u8 b.toNat

def Asks (v : Value) (p : UInt8 → Bool) (w : World) : Prop :=
 ∃ g lb, v = .func (.func g) #[] lb ∧ (∀ args w, (callFunc g args).run Tryz.prog w = .ok (.enter g args) w) ∧
  ∀ (W : World) (x : UInt8), Below w.heap.size w W → Calls Tryz.prog g (#[encB x] ++ lb) W fun e w' => e = .returned (.bool (p x)) ∧ ∃ q, w' = W.drewN q

theorem Asks.later {v : Value} {p : UInt8 → Bool} {w W : World} (h : Asks v p w) (hb : Below w.heap.size w W) : Asks v p W := by
 obtain ⟨g, lb, e, eg, hp⟩ := h
 exact ⟨g, lb, e, eg, fun W' x hb' => hp W' x (below_next hb hb')⟩
theorem Asks.like {v : Value} {p p' : UInt8 → Bool} {w : World} (h : Asks v p w) (e : ∀ x, p x = p' x) : Asks v p' w := by
 obtain rfl : p = p' := funext e
 exact h

def inR (a b : Nat) (c : UInt8) : Bool := decide (a ≤ c.toNat) && decide (c.toNat ≤ b)

def Makes5 (p : UInt8 → Bool) (w : World) (e : Ending) (w' : World) : Prop := ∃ g lb, e = .returned (.func (.func g) #[] lb) ∧ Asks (.func (.func g) #[] lb) p w' ∧ Below w.heap.size w w'

theorem mkf : ∀ (fn : Fn) (first cap : Array Value) (w : World), (Instr.makeFunc fn first cap).run Tryz.prog w = .ok (.func fn first cap) w := fun _ _ _ _ => rfl

set_option maxRecDepth 100000 in
theorem within1_calls (B C a b : Nat) (x : UInt8) (w : World) (ha : w.cell? ⟨B, 0, none⟩ = some (.int .u8 a)) (hb : w.cell? ⟨C, 0, none⟩ = some (.int .u8 b)) :
  Calls Tryz.prog 179 #[encB x, .pointer (some ⟨B, 0, none⟩), .pointer (some ⟨C, 0, none⟩)] w fun e w' => e = .returned (.bool (inR a b x)) ∧ ∃ q, w' = w.drewN q := by
 unfold encB inR
 generalize x.toNat = n
 by_cases h1 : a ≤ n <;> by_cases h2 : n ≤ b
 all_goals
  have z1 : (a : Int) ≤ (n : Int) ↔ a ≤ n := by omega
  have z2 : (n : Int) ≤ (b : Int) ↔ n ≤ b := by omega
  go_enter Tryz.func179, Tryz.ntmps179
  go_wp2
  all_goals first | (exfalso; omega) | (go_ret; exact ⟨by simp [h1, h2], 0, rfl⟩)

set_option maxRecDepth 100000 in
theorem within_calls (a b : Nat) (w : World) : Calls Tryz.prog 164 #[.int .u8 a, .int .u8 b] w (Makes5 (inR a b) w) := by
 have hmf := mkf
 go_enter Tryz.func164, Tryz.ntmps164
 go_wp2
 go_ret
 refine ⟨_, _, rfl, ?_, below_alloc (below_alloc (Below.refl _ _) _) _⟩
 refine ⟨_, _, rfl, enters_of Tryz.func179 (by kernel_rfl) rfl, fun W x hb => ?_⟩
 exact within1_calls _ _ a b x W ((hb.cell (p := ⟨_, 0, none⟩) (by simp; try omega)).trans (by simp)) ((hb.cell (p := ⟨_, 0, none⟩) (by simp; try omega)).trans (by simp))

theorem within_int (x y : Int) (a b : Nat) (hx : x = a) (hy : y = b) (w : World) : Calls Tryz.prog 164 #[.int .u8 x, .int .u8 y] w (Makes5 (inR a b) w) := by
 subst hx; subst hy; exact within_calls a b w

def AskRow (w : World) (B : Nat) (l : List (Value × (UInt8 → Bool))) : Prop :=
 B < w.heap.size ∧ ∀ j (h : j < l.length), w.cell? ⟨B, j, none⟩ = some l[j].1 ∧ Asks l[j].1 l[j].2 w
theorem AskRow.later {w W : World} {B : Nat} {l : List (Value × (UInt8 → Bool))} (h : AskRow w B l) (hb : Below w.heap.size w W) : AskRow W B l :=
 ⟨Nat.lt_of_lt_of_le h.1 hb.size, fun j hj => ⟨(hb.cell (p := ⟨B, j, none⟩) h.1).trans (h.2 j hj).1, (h.2 j hj).2.later hb⟩⟩

set_option maxRecDepth 100000 in
theorem either1_calls (C B n cap : Nat) (l : List (Value × (UInt8 → Bool))) (x : UInt8) (w : World) (hl : n = l.length) (hn : n ≤ 1000) (hc : w.cell? ⟨C, 0, none⟩ = some (.slice (some ⟨B, 0, none⟩) n cap)) (hr : AskRow w B l) :
  Calls Tryz.prog 178 #[encB x, .pointer (some ⟨C, 0, none⟩)] w fun e w' => e = .returned (.bool (l.any fun a => a.2 x)) ∧ ∃ q, w' = w.drewN q := by
 have HR := Lib.hid hr
 have HL := Lib.hid hl
 clear hr hl
 generalize hx : encB x = xv
 have HX := Lib.hid hx
 clear hx
 go_enter Tryz.func178, Tryz.ntmps178
 go_wp2
 go_loopg [5, 8] n (fun gg _ s8 wr => ∃ kk q : Nat, kk ≤ n ∧ n - kk ≤ gg ∧ s8 = .int .i64 kk ∧ wr = w.drewN q ∧ Hid (∀ j (h : j < l.length), j < kk → l[j].2 x = false))
 case atStart => exact ⟨0, 0, Nat.zero_le _, by omega, rfl, rfl, fun j _ hj => absurd hj (Nat.not_lt_zero _)⟩
 case round =>
  obtain ⟨kk, q, hkk, hg, rfl, rfl, A⟩ := hrel
  by_cases hlt : kk < n
  ·
   have hltz : (kk : Int) < (n : Int) := by omega
   have hk : kk < l.length := HL.out ▸ hlt
   obtain ⟨hcell, g, lb, hv, eg, hp⟩ := HR.out.2 kk hk
   have HF := Lib.hid (rfl : l[kk].2 x = l[kk].2 x)
   have hcall := hp (w.drewN q) x (below_drewN (Below.refl _ _) q)
   rw [hv] at hcell
   rw [HX.out] at hcall
   have HC := Lib.hid hcall
   clear hp hcall hv
   cases hq : l[kk].2 x with
   | true =>
    have HQ := Lib.hid hq
    clear hq
    go_wp2_with (go_at_fn g; refine HC.out.mono ?_; rw [HQ.out]; rintro e w' ⟨rfl, q', rfl⟩)
    go_ret
    refine ⟨?_, _, rfl⟩
    have : (l.any fun a => a.2 x) = true := List.any_eq_true.2 ⟨l[kk], List.getElem_mem hk, HQ.out⟩
    rw [this]; rfl
   | false =>
    have HQ := Lib.hid hq
    clear hq
    go_wp2_with (go_at_fn g; refine HC.out.mono ?_; rw [HQ.out]; rintro e w' ⟨rfl, q', rfl⟩)
    go_roundg (n - (kk + 1))
    case measure => omega
    case rel =>
     refine ⟨kk + 1, _, by omega, by omega, by go_num, rfl, (show Hid _ from fun j h hj => ?_)⟩
     by_cases e : j = kk
     ·
      subst e
      exact HQ.out
     ·
      exact A.out j h (by omega)
  ·
   have hltz : ¬ (kk : Int) < (n : Int) := by omega
   have : kk = n := by omega
   subst this
   go_wp2
   go_ret
   refine ⟨?_, q, rfl⟩
   have : (l.any fun a => a.2 x) = false := by
    rw [List.any_eq_false]
    intro a ha
    obtain ⟨j, hj, rfl⟩ := List.getElem_of_mem ha
    simp [A.out j hj (HL.out ▸ hj)]
   rw [this]; rfl

set_option maxRecDepth 100000 in
theorem either_calls (B n cap : Nat) (l : List (Value × (UInt8 → Bool))) (w : World) (hl : n = l.length) (hn : n ≤ 1000) (hr : AskRow w B l) :
  Calls Tryz.prog 162 #[.slice (some ⟨B, 0, none⟩) n cap] w (Makes5 (fun x => l.any fun a => a.2 x) w) := by
 have hmf := mkf
 have HR := Lib.hid hr
 have HL := Lib.hid hl
 clear hr hl
 go_enter Tryz.func162, Tryz.ntmps162
 go_wp2
 go_ret
 refine ⟨_, _, rfl, ?_, below_alloc (Below.refl _ _) _⟩
 refine ⟨_, _, rfl, enters_of Tryz.func178 (by kernel_rfl) rfl, fun W x hb => ?_⟩
 exact either1_calls _ B n cap l x W HL.out hn ((hb.cell (p := ⟨_, 0, none⟩) (by simp)).trans (by simp)) (HR.out.later (below_next (below_alloc (Below.refl _ _) _) hb))

def letter5 : UInt8 → Bool := inR 97 122
def digit5 : UInt8 → Bool := inR 48 57
def both5 (x : UInt8) : Bool := letter5 x || digit5 x
def sign5 (x : UInt8) : Bool := both5 x || inR 45 45 x || inR 46 46 x

set_option maxRecDepth 100000 in
theorem letter_calls (w : World) : Calls Tryz.prog 140 #[] w (Makes5 letter5 w) := by
 have HC := Lib.hid (within_int 97 122 97 122 rfl rfl w)
 go_enter Tryz.func140, Tryz.ntmps140
 go_wp2_with fail
 with_reducible refine HC.out.mono ?_
 rintro e w1 ⟨g, lb, rfl, ha, hb⟩
 have HA := Lib.hid ha
 have HB := Lib.hid hb
 clear ha hb
 go_wp2
 go_ret
 exact ⟨g, lb, rfl, HA.out, HB.out⟩

set_option maxRecDepth 100000 in
theorem digit_calls (w : World) : Calls Tryz.prog 163 #[] w (Makes5 digit5 w) := by
 have HC := Lib.hid (within_int 48 57 48 57 rfl rfl w)
 go_enter Tryz.func163, Tryz.ntmps163
 go_wp2_with fail
 with_reducible refine HC.out.mono ?_
 rintro e w1 ⟨g, lb, rfl, ha, hb⟩
 have HA := Lib.hid ha
 have HB := Lib.hid hb
 clear ha hb
 go_wp2
 go_ret
 exact ⟨g, lb, rfl, HA.out, HB.out⟩

theorem AskRow.two {w : World} {B : Nat} {v1 v2 : Value} {p1 p2 : UInt8 → Bool} (hB : B < w.heap.size) (c1 : w.cell? ⟨B, 0, none⟩ = some v1) (c2 : w.cell? ⟨B, 1, none⟩ = some v2) (a1 : Asks v1 p1 w) (a2 : Asks v2 p2 w) :
  AskRow w B [(v1, p1), (v2, p2)] :=
 ⟨hB, fun j hj => match j, hj with
  | 0, _ => ⟨c1, a1⟩
  | 1, _ => ⟨c2, a2⟩
  | k + 2, h => absurd h (by simp)⟩
theorem AskRow.three {w : World} {B : Nat} {v1 v2 v3 : Value} {p1 p2 p3 : UInt8 → Bool} (hB : B < w.heap.size) (c1 : w.cell? ⟨B, 0, none⟩ = some v1) (c2 : w.cell? ⟨B, 1, none⟩ = some v2) (c3 : w.cell? ⟨B, 2, none⟩ = some v3) (a1 : Asks v1 p1 w) (a2 : Asks v2 p2 w) (a3 : Asks v3 p3 w) :
  AskRow w B [(v1, p1), (v2, p2), (v3, p3)] :=
 ⟨hB, fun j hj => match j, hj with
  | 0, _ => ⟨c1, a1⟩
  | 1, _ => ⟨c2, a2⟩
  | 2, _ => ⟨c3, a3⟩
  | k + 3, h => absurd h (by simp)⟩

set_option maxRecDepth 100000 in
theorem both_calls (w : World) : Calls Tryz.prog 141 #[] w (Makes5 both5 w) := by
 have HC := Lib.hid (letter_calls w)
 go_enter Tryz.func141, Tryz.ntmps141
 go_wp2_with fail
 with_reducible refine HC.out.mono ?_
 rintro e w1 ⟨g1, lb1, rfl, ha, hb⟩
 have HA1 := Lib.hid ha
 have HB1 := Lib.hid hb
 have HC2 := Lib.hid (digit_calls w1)
 clear ha hb HC
 go_wp2_with fail
 with_reducible refine HC2.out.mono ?_
 rintro e w2 ⟨g2, lb2, rfl, ha, hb⟩
 have HA2 := Lib.hid ha
 have HA1' := Lib.hid (HA1.out.later hb)
 have HB2 := Lib.hid (below_next HB1.out hb)
 clear ha hb HC2 HA1 HB1
 go_wp2_with fail
 have bl := below_alloc (Below.refl w2.heap.size w2) (.cells #[.func (.func g1) #[] lb1, .func (.func g2) #[] lb2] 150)
 refine (either_calls _ 2 _ [(_, letter5), (_, digit5)] _ rfl (by omega) (AskRow.two (by simp) (by simp) (by simp) (HA1'.out.later bl) (HA2.out.later bl))).mono ?_
 rintro e w3 ⟨g, lb, rfl, ha, hb⟩
 have HA := Lib.hid (ha.like (p' := both5) fun x => by simp [both5])
 have HB := Lib.hid (below_next (below_next HB2.out bl) hb)
 clear ha hb bl
 go_wp2
 go_ret
 exact ⟨g, lb, rfl, HA.out, HB.out⟩

set_option maxRecDepth 100000 in
theorem sign_calls (w : World) : Calls Tryz.prog 147 #[] w (Makes5 sign5 w) := by
 have HC := Lib.hid (both_calls w)
 go_enter Tryz.func147, Tryz.ntmps147
 go_wp2_with fail
 with_reducible refine HC.out.mono ?_
 rintro e w1 ⟨g1, lb1, rfl, ha, hb⟩
 have HA1 := Lib.hid ha
 have HB1 := Lib.hid hb
 have HC2 := Lib.hid (within_int 45 45 45 45 rfl rfl w1)
 clear ha hb HC
 go_wp2_with fail
 with_reducible refine HC2.out.mono ?_
 rintro e w2 ⟨g2, lb2, rfl, ha, hb⟩
 have HA2 := Lib.hid ha
 have HA1' := Lib.hid (HA1.out.later hb)
 have HB2 := Lib.hid (below_next HB1.out hb)
 have HC3 := Lib.hid (within_int 46 46 46 46 rfl rfl w2)
 clear ha hb HC2 HA1 HB1
 go_wp2_with fail
 with_reducible refine HC3.out.mono ?_
 rintro e w3 ⟨g3, lb3, rfl, ha, hb⟩
 have HA3 := Lib.hid ha
 have HA1 := Lib.hid (HA1'.out.later hb)
 have HA2' := Lib.hid (HA2.out.later hb)
 have HB3 := Lib.hid (below_next HB2.out hb)
 clear ha hb HC3 HA1' HA2 HB2
 go_wp2_with fail
 have bl := below_alloc (Below.refl w3.heap.size w3) (.cells #[.func (.func g1) #[] lb1, .func (.func g2) #[] lb2, .func (.func g3) #[] lb3] 150)
 refine (either_calls _ 3 _ [(_, both5), (_, inR 45 45), (_, inR 46 46)] _ rfl (by omega) (AskRow.three (by simp) (by simp) (by simp) (by simp) (HA1.out.later bl) (HA2'.out.later bl) (HA3.out.later bl))).mono ?_
 rintro e w4 ⟨g, lb, rfl, ha, hb⟩
 have HA := Lib.hid (ha.like (p' := sign5) fun x => by simp [sign5, Bool.or_assoc])
 have HB := Lib.hid (below_next (below_next HB3.out bl) hb)
 clear ha hb bl
 go_wp2
 go_ret
 exact ⟨g, lb, rfl, HA.out, HB.out⟩

def bt5 (s : ByteArray) (k : Nat) : Int := if h : k < s.size then ((s[k]'h).toNat : Int) else 0

set_option maxRecDepth 100000 in
theorem every_calls (s : ByteArray) (g : Nat) (lb : Array Value) (p : UInt8 → Bool) (w : World) (hs : s.size ≤ 9223372036854775807) (ha : Asks (.func (.func g) #[] lb) p w) :
  Calls Tryz.prog 146 #[.string s, .func (.func g) #[] lb] w fun e w' => e = .returned (.bool (s.data.toList.all p)) ∧ ∃ q, w' = w.drewN q := by
 obtain ⟨g', lb', hv, eg, hp⟩ := ha
 obtain ⟨rfl, rfl⟩ : g' = g ∧ lb' = lb := by simpa using hv.symm
 clear hv
 have HP : Hid (∀ (q : Nat) (x : UInt8), Calls Tryz.prog g' (#[encB x] ++ lb') (w.drewN q) fun e w' => e = .returned (.bool (p x)) ∧ ∃ q', w' = (w.drewN q).drewN q') := fun q x => hp (w.drewN q) x (below_drewN (Below.refl _ _) q)
 clear hp
 generalize hn : s.size = n at *
 obtain ⟨r, hr⟩ : ∃ r, r = s.data.toList.all p := ⟨_, rfl⟩
 rw [← hr]
 have HR := Lib.hid hr
 clear hr
 go_enter Tryz.func146, Tryz.ntmps146
 go_wp2
 go_loopg [5, 8] n (fun gg _ s8 wr => ∃ kk q : Nat, kk ≤ n ∧ n - kk ≤ gg ∧ s8 = .int .i64 kk ∧ wr = w.drewN q ∧ Hid (∀ j (h : j < s.size), j < kk → p s[j] = true))
 case atStart => exact ⟨0, 0, Nat.zero_le _, by omega, rfl, rfl, fun j _ hj => absurd hj (Nat.not_lt_zero _)⟩
 case round =>
  obtain ⟨kk, q, hkk, hg, rfl, rfl, A⟩ := hrel
  by_cases hlt : kk < n
  ·
   have hltz : (kk : Int) < (n : Int) := by omega
   have hk : kk < s.size := hn ▸ hlt
   have hx : ∀ (h : kk < s.size), ((s[kk]'h).toNat : Int) = bt5 s kk := fun h => by unfold bt5; rw [dif_pos h]
   have hcall : Calls Tryz.prog g' (#[Value.int .u8 (bt5 s kk)] ++ lb') (w.drewN q) (fun e w' => e = .returned (.bool (p s[kk])) ∧ ∃ q', w' = (w.drewN q).drewN q') := by rw [← hx hk]; exact HP.out q s[kk]
   cases hq : p s[kk] with
   | true =>
    rw [hq] at hcall
    have HC := Lib.hid hcall
    have HQ := Lib.hid hq
    clear hq hcall
    go_wp2_with (go_at_fn g'; refine HC.out.mono ?_; rintro e w' ⟨rfl, q', rfl⟩)
    go_roundg (n - (kk + 1))
    case measure => omega
    case rel =>
     refine ⟨kk + 1, _, by omega, by omega, by go_num, rfl, (show Hid _ from fun j h hj => ?_)⟩
     by_cases e : j = kk
     ·
      subst e
      exact HQ.out
     ·
      exact A.out j h (by omega)
   | false =>
    rw [hq] at hcall
    have HC := Lib.hid hcall
    have HQ := Lib.hid hq
    clear hq hcall
    go_wp2_with (go_at_fn g'; refine HC.out.mono ?_; rintro e w' ⟨rfl, q', rfl⟩)
    go_ret
    refine ⟨?_, _, rfl⟩
    have : (s.data.toList.all p) = false := by
     rw [List.all_eq_false]
     exact ⟨s[kk], Array.mem_toList_iff.2 (Array.getElem_mem (xs := s.data) (i := kk) hk), by rw [HQ.out]; simp⟩
    rw [HR.out, this]; rfl
  ·
   have hltz : ¬ (kk : Int) < (n : Int) := by omega
   have : kk = n := by omega
   subst this
   have HN := Lib.hid hn
   clear hn
   go_wp2
   go_ret
   refine ⟨?_, q, rfl⟩
   have : (s.data.toList.all p) = true := by
    rw [List.all_eq_true]
    intro a ha
    obtain ⟨j, hj, rfl⟩ := Array.getElem_of_mem (Array.mem_toList_iff.1 ha)
    exact A.out j hj (by have := HN.out; rw [← this]; exact hj)
   rw [HR.out, this]; rfl
end Go.Proofs.YthlgmkfofebbfaaGreatDoor


namespace Go.Proofs.YthlgmkfofebbfaaGreatDoor
open Go.RowKit

def pref5 (l : List UInt8) : Bool := decide (l.length ≤ 12) && l.all sign5
def name5 (l : List UInt8) : Bool := decide (1 ≤ l.length) && pref5 l && letter5 (l.headD 0) && both5 (l.getLastD 0)
def hexa5 (x : UInt8) : Bool := digit5 x || inR 97 102 x
def hash5 (l : List UInt8) : Bool := decide (1 ≤ l.length) && decide (l.length ≤ 12) && l.all hexa5

def Tells5 (b : Bool) (w : World) (e : Ending) (w' : World) : Prop := e = .returned (.bool b) ∧ Below w.heap.size w w'
def Errs5 (n : Int) (w : World) (e : Ending) (w' : World) : Prop := e = .returned (.int .i64 n) ∧ Below w.heap.size w w'

theorem size_list (s : ByteArray) : s.data.toList.length = s.size := by simp

set_option maxRecDepth 100000 in
theorem prefix_calls (s : ByteArray) (w : World) (hs : s.size ≤ 9223372036854775807) :
  Calls Tryz.prog 116 #[.string s] w (Tells5 (pref5 s.data.toList) w) := by
 generalize hr : pref5 s.data.toList = r
 have hr' : (decide (s.size ≤ 12) && s.data.toList.all sign5) = r := by rw [← hr, pref5, size_list]
 clear hr
 have HS := Lib.hid hs
 have HV : Hid (∀ g lb w, Asks (.func (.func g) #[] lb) sign5 w → Calls Tryz.prog 146 #[.string s, .func (.func g) #[] lb] w fun e w' => e = .returned (.bool (s.data.toList.all sign5)) ∧ ∃ q, w' = w.drewN q) :=
  fun g lb w ha => every_calls s g lb sign5 w hs ha
 by_cases h12 : s.size ≤ 12
 ·
  have hr2 : s.data.toList.all sign5 = r := by simpa [h12] using hr'
  rw [hr2] at HV
  clear hr' hr2 hs
  generalize hn : s.size = n at *
  have z : (n : Int) ≤ 12 := by omega
  have HC := Lib.hid (sign_calls w)
  go_enter Tryz.func116, Tryz.ntmps116
  go_wp2_with fail
  with_reducible refine HC.out.mono ?_
  rintro e w1 ⟨g, lb, rfl, ha, hb⟩
  have HB := Lib.hid hb
  have HE := Lib.hid (HV.out g lb w1 ha)
  clear ha hb HC HV
  go_wp2_with fail
  with_reducible refine HE.out.mono ?_
  rintro e w2 ⟨rfl, q, rfl⟩
  go_wp2
  go_ret
  exact ⟨rfl, below_drewN HB.out q⟩
 ·
  have hr2 : false = r := by simpa [h12] using hr'
  clear hr' HV
  subst hr2
  generalize hn : s.size = n at *
  have z : ¬ (n : Int) ≤ 12 := by omega
  go_enter Tryz.func116, Tryz.ntmps116
  go_wp2
  go_ret
  exact ⟨rfl, Below.refl _ _⟩

theorem Asks.at_ {g : Nat} {lb : Array Value} {p : UInt8 → Bool} {w : World} (h : Asks (.func (.func g) #[] lb) p w) (x : UInt8) (n : Int) (hx : (x.toNat : Int) = n) (b : Bool) (hb : p x = b) :
  (∀ args w, (callFunc g args).run Tryz.prog w = .ok (.enter g args) w) ∧ Calls Tryz.prog g (#[.int .u8 n] ++ lb) w fun e w' => e = .returned (.bool b) ∧ ∃ q, w' = w.drewN q := by
 obtain ⟨g', lb', hv, eg, hp⟩ := h
 obtain ⟨rfl, rfl⟩ : g' = g ∧ lb' = lb := by simpa using hv.symm
 subst hx; subst hb
 exact ⟨eg, hp w x (Below.refl _ _)⟩

theorem bt5_eq (s : ByteArray) (k : Nat) (h : k < s.size) : (s[k].toNat : Int) = bt5 s k := by unfold bt5; rw [dif_pos h]

theorem head_at (s : ByteArray) (h : 0 < s.size) : s.data.toList.headD 0 = s[0] := by
 obtain ⟨⟨l⟩⟩ := s
 cases l with
 | nil => exact absurd h (by decide)
 | cons a l => rfl
theorem last_at (s : ByteArray) (h : 0 < s.size) : s.data.toList.getLastD 0 = s[s.size - 1] := by
 obtain ⟨⟨l⟩⟩ := s
 have hl0 : l ≠ [] := by intro e; subst e; exact absurd h (by decide)
 rw [List.getLastD_eq_getLast?, List.getLast?_eq_some_getLast hl0]
 simp [List.getLast_eq_getElem]
 rfl

set_option maxRecDepth 100000 in
theorem name_calls (s : ByteArray) (w : World) (hs : s.size ≤ 9223372036854775807) :
  Calls Tryz.prog 107 #[.string s] w (Tells5 (name5 s.data.toList) w) := by
 by_cases h0 : s.size = 0
 ·
  obtain rfl : s = ⟨#[]⟩ := by
   obtain ⟨d⟩ := s
   obtain rfl : d = #[] := Array.eq_empty_of_size_eq_zero h0
   rfl
  have : name5 (ByteArray.mk #[]).data.toList = false := rfl
  rw [this]
  clear this hs h0
  go_enter Tryz.func107, Tryz.ntmps107
  go_wp2
  go_ret
  exact ⟨rfl, Below.refl _ _⟩
 ·
  have hne : ¬ s.toList = [] := fun e => h0 (by rw [← size_list, ← ByteArray.toList_eq, e]; rfl)
  have hne2 : s.toList.isEmpty = false := by simpa using hne
  have hpos : 0 < s.size := by omega
  have hh := head_at s hpos
  have hl := last_at s hpos
  have he : name5 s.data.toList = (pref5 s.data.toList && letter5 s[0] && both5 s[s.size - 1]) := by
   unfold name5
   rw [hh, hl, size_list, decide_eq_true (by omega : 1 ≤ s.size), Bool.true_and]
  rw [he]
  clear he hh hl
  have HP := Lib.hid (prefix_calls s w hs)
  have hb0 := bt5_eq s 0 hpos
  have hb1 := bt5_eq s (s.size - 1) (by omega)
  have HA0 : Hid (∀ g lb w, Asks (.func (.func g) #[] lb) letter5 w → _) := fun g lb w ha => Asks.at_ (w := w) (g := g) (lb := lb) ha s[0] _ hb0 _ rfl
  have HA1 : Hid (∀ g lb w, Asks (.func (.func g) #[] lb) both5 w → _) := fun g lb w ha => Asks.at_ (w := w) (g := g) (lb := lb) ha s[s.size - 1] _ hb1 _ rfl
  have HS0 : Hid (∀ (h : 0 < s.size), ((s[0]'h).toNat : Int) = bt5 s 0) := fun h => bt5_eq s 0 h
  have HS1 : Hid (∀ (h : s.size - 1 < s.size), ((s[s.size - 1]'h).toNat : Int) = bt5 s (s.size - 1)) := fun h => bt5_eq s _ h
  clear hb0 hb1
  generalize pref5 s.data.toList = bp at *
  generalize letter5 s[0] = b0 at *
  generalize both5 s[s.size - 1] = b1 at *
  generalize bt5 s 0 = n0 at *
  generalize hn1 : bt5 s (s.size - 1) = n1 at *
  clear hn1
  cases bp with
  | false =>
   show Calls _ _ _ _ (Tells5 false w)
   clear HA0 HA1 HS0 HS1
   generalize hn : s.size = n at *
   go_enter Tryz.func107, Tryz.ntmps107
   go_wp2_with fail
   with_reducible refine HP.out.mono ?_
   rintro e w1 ⟨rfl, hb⟩
   have HB := Lib.hid hb
   clear hb HP
   go_wp2
   go_ret
   exact ⟨rfl, HB.out⟩
  | true =>
   show Calls _ _ _ _ (Tells5 (b0 && b1) w)
   have hs0 := HS0.out
   have hs1 := HS1.out
   have z : (s.size : Int) - 1 = ((s.size - 1 : Nat) : Int) := by omega
   clear HS0 HS1
   go_enter Tryz.func107, Tryz.ntmps107
   go_wp2_with fail
   with_reducible refine HP.out.mono ?_
   rintro e w1 ⟨rfl, hb⟩
   have HB := Lib.hid hb
   clear hb HP
   go_wp2_with fail
   go_quiet (fail)
   clear hs0 hs1 z
   generalize hw2 : w1.drewN nq = w2
   have HB2 := Lib.hid (hw2 ▸ below_drewN HB.out nq)
   clear hw2 HB
   generalize hn : s.size = n at *
   generalize ((n - 1 : Nat) : Int) = nm at *
   have HC := Lib.hid (letter_calls w2)
   go_wp2_with fail
   with_reducible refine HC.out.mono ?_
   rintro e w3 ⟨g, lb, rfl, ha, hb⟩
   have HB3 := Lib.hid (below_next HB2.out hb)
   obtain ⟨eg, hc⟩ := HA0.out g lb w3 ha
   have HC0 := Lib.hid hc
   clear ha hb HC HB2 HA0 hc
   cases b0 with
   | false =>
    show _
    go_wp2_with (go_at_fn g; refine HC0.out.mono ?_; rintro e w4 ⟨rfl, q, rfl⟩)
    go_ret
    exact ⟨rfl, below_drewN HB3.out q⟩
   | true =>
    go_wp2_with (first | (go_at_fn g; refine HC0.out.mono ?_; rintro e w4 ⟨rfl, q, rfl⟩) | fail)
    have HD := Lib.hid (both_calls (w3.drewN q))
    with_reducible refine HD.out.mono ?_
    rintro e w5 ⟨g', lb', rfl, ha, hb⟩
    have HB5 := Lib.hid (below_next (below_drewN HB3.out q) hb)
    obtain ⟨eg', hc⟩ := HA1.out g' lb' w5 ha
    have HC1 := Lib.hid hc
    clear ha hb HB3 HA1 hc HD eg HC0
    go_wp2_with (go_at_fn g'; refine HC1.out.mono ?_; rintro e w6 ⟨rfl, q', rfl⟩)
    go_ret
    exact ⟨by simp, below_drewN HB5.out q'⟩

set_option maxRecDepth 100000 in
theorem hash_calls (s : ByteArray) (w : World) (hs : s.size ≤ 9223372036854775807) :
  Calls Tryz.prog 130 #[.string s] w (Tells5 (hash5 s.data.toList) w) := by
 by_cases h0 : s.size = 0
 ·
  obtain rfl : s = ⟨#[]⟩ := by
   obtain ⟨d⟩ := s
   obtain rfl : d = #[] := Array.eq_empty_of_size_eq_zero h0
   rfl
  have : hash5 (ByteArray.mk #[]).data.toList = false := rfl
  rw [this]
  clear this hs h0
  go_enter Tryz.func130, Tryz.ntmps130
  go_wp2
  go_ret
  exact ⟨rfl, Below.refl _ _⟩
 ·
  have hne : ¬ s.toList = [] := fun e => h0 (by rw [← size_list, ← ByteArray.toList_eq, e]; rfl)
  have hne2 : s.toList.isEmpty = false := by simpa using hne
  have he : hash5 s.data.toList = (decide (s.size ≤ 12) && s.data.toList.all hexa5) := by
   unfold hash5
   rw [size_list, decide_eq_true (by omega : 1 ≤ s.size), Bool.true_and]
  have HV : Hid (∀ g lb w, Asks (.func (.func g) #[] lb) hexa5 w → Calls Tryz.prog 146 #[.string s, .func (.func g) #[] lb] w fun e w' => e = .returned (.bool (s.data.toList.all hexa5)) ∧ ∃ q, w' = w.drewN q) :=
   fun g lb w ha => every_calls s g lb hexa5 w hs ha
  by_cases h12 : s.size ≤ 12
  ·
   rw [he, decide_eq_true h12, Bool.true_and]
   clear he
   generalize s.data.toList.all hexa5 = r at *
   generalize hn : s.size = n at *
   have z : (n : Int) ≤ 12 := by omega
   have HC := Lib.hid (digit_calls w)
   go_enter Tryz.func130, Tryz.ntmps130
   go_wp2_with fail
   with_reducible refine HC.out.mono ?_
   rintro e w1 ⟨g1, lb1, rfl, ha, hb⟩
   have HA1 := Lib.hid ha
   have HB1 := Lib.hid hb
   have HC2 := Lib.hid (within_int 97 102 97 102 rfl rfl w1)
   clear ha hb HC
   go_wp2_with fail
   with_reducible refine HC2.out.mono ?_
   rintro e w2 ⟨g2, lb2, rfl, ha, hb⟩
   have HA2 := Lib.hid ha
   have HA1' := Lib.hid (HA1.out.later hb)
   have HB2 := Lib.hid (below_next HB1.out hb)
   clear ha hb HC2 HA1 HB1
   go_wp2_with fail
   have bl := below_alloc (Below.refl w2.heap.size w2) (.cells #[.func (.func g1) #[] lb1, .func (.func g2) #[] lb2] 150)
   refine (either_calls _ 2 _ [(_, digit5), (_, inR 97 102)] _ rfl (by omega) (AskRow.two (by simp) (by simp) (by simp) (HA1'.out.later bl) (HA2.out.later bl))).mono ?_
   rintro e w3 ⟨g, lb, rfl, ha, hb⟩
   have HE := Lib.hid (HV.out g lb w3 (ha.like (p' := hexa5) fun x => by simp [hexa5]))
   have HB := Lib.hid (below_next (below_next HB2.out bl) hb)
   clear ha hb bl HV HA1' HA2 HB2
   go_wp2_with fail
   with_reducible refine HE.out.mono ?_
   rintro e w4 ⟨rfl, q, rfl⟩
   go_wp2
   go_ret
   exact ⟨rfl, below_drewN HB.out q⟩
  ·
   rw [he, decide_eq_false h12, Bool.false_and]
   clear he HV
   generalize hn : s.size = n at *
   have z : ¬ (n : Int) ≤ 12 := by omega
   go_enter Tryz.func130, Tryz.ntmps130
   go_wp2
   go_ret
   exact ⟨rfl, Below.refl _ _⟩

def err5 (b : Bool) (n : Int) : Int := if b then 0 else n

set_option maxRecDepth 100000 in
theorem Name_calls (s : ByteArray) (w : World) (hs : s.size ≤ 9223372036854775807) :
  Calls Tryz.prog 52 #[.string s] w (Errs5 (err5 (name5 s.data.toList) 10) w) := by
 have HP := Lib.hid (name_calls s w hs)
 generalize name5 s.data.toList = b at *
 cases b with
 | false =>
  show Calls _ _ _ _ (Errs5 10 w)
  go_enter Tryz.func52, Tryz.ntmps52
  go_wp2_with fail
  with_reducible refine HP.out.mono ?_
  rintro e w1 ⟨rfl, hb⟩
  have HB := Lib.hid hb
  clear hb HP
  go_wp2
  go_ret
  exact ⟨rfl, HB.out⟩
 | true =>
  show Calls _ _ _ _ (Errs5 0 w)
  go_enter Tryz.func52, Tryz.ntmps52
  go_wp2_with fail
  with_reducible refine HP.out.mono ?_
  rintro e w1 ⟨rfl, hb⟩
  have HB := Lib.hid hb
  clear hb HP
  go_wp2
  go_ret
  exact ⟨rfl, HB.out⟩

set_option maxRecDepth 100000 in
theorem Prefix_calls (s : ByteArray) (w : World) (hs : s.size ≤ 9223372036854775807) :
  Calls Tryz.prog 59 #[.string s] w (Errs5 (err5 (pref5 s.data.toList) 10) w) := by
 have HP := Lib.hid (prefix_calls s w hs)
 generalize pref5 s.data.toList = b at *
 cases b with
 | false =>
  show Calls _ _ _ _ (Errs5 10 w)
  go_enter Tryz.func59, Tryz.ntmps59
  go_wp2_with fail
  with_reducible refine HP.out.mono ?_
  rintro e w1 ⟨rfl, hb⟩
  have HB := Lib.hid hb
  clear hb HP
  go_wp2
  go_ret
  exact ⟨rfl, HB.out⟩
 | true =>
  show Calls _ _ _ _ (Errs5 0 w)
  go_enter Tryz.func59, Tryz.ntmps59
  go_wp2_with fail
  with_reducible refine HP.out.mono ?_
  rintro e w1 ⟨rfl, hb⟩
  have HB := Lib.hid hb
  clear hb HP
  go_wp2
  go_ret
  exact ⟨rfl, HB.out⟩

set_option maxRecDepth 100000 in
theorem Hash_calls (s : ByteArray) (w : World) (hs : s.size ≤ 9223372036854775807) :
  Calls Tryz.prog 79 #[.string s] w (Errs5 (err5 (hash5 s.data.toList) 4) w) := by
 have HP := Lib.hid (hash_calls s w hs)
 generalize hash5 s.data.toList = b at *
 cases b with
 | false =>
  show Calls _ _ _ _ (Errs5 4 w)
  go_enter Tryz.func79, Tryz.ntmps79
  go_wp2_with fail
  with_reducible refine HP.out.mono ?_
  rintro e w1 ⟨rfl, hb⟩
  have HB := Lib.hid hb
  clear hb HP
  go_wp2
  go_ret
  exact ⟨rfl, HB.out⟩
 | true =>
  show Calls _ _ _ _ (Errs5 0 w)
  go_enter Tryz.func79, Tryz.ntmps79
  go_wp2_with fail
  with_reducible refine HP.out.mono ?_
  rintro e w1 ⟨rfl, hb⟩
  have HB := Lib.hid hb
  clear hb HP
  go_wp2
  go_ret
  exact ⟨rfl, HB.out⟩
end Go.Proofs.YthlgmkfofebbfaaGreatDoor


namespace Go.Proofs.YthlgmkfofebbfaaGreatDoor
open Go.RowKit


def Ask7 (v : Value) (n : Int) (w : World) : Prop :=
 ∃ g lb, v = .func (.func g) #[] lb ∧ (∀ args w, (callFunc g args).run Tryz.prog w = .ok (.enter g args) w) ∧
  ∀ W : World, Below w.heap.size w W → Calls Tryz.prog g lb W (Errs5 n W)
theorem Ask7.later {v : Value} {n : Int} {w W : World} (h : Ask7 v n w) (hb : Below w.heap.size w W) : Ask7 v n W := by
 obtain ⟨g, lb, e, eg, hp⟩ := h
 exact ⟨g, lb, e, eg, fun W' hb' => hp W' (below_next hb hb')⟩
def Holds7 (v : Value) (b : Bool) (w : World) : Prop :=
 ∃ g lb, v = .func (.func g) #[] lb ∧ (∀ args w, (callFunc g args).run Tryz.prog w = .ok (.enter g args) w) ∧
  ∀ W : World, Below w.heap.size w W → Calls Tryz.prog g lb W (Tells5 b W)
theorem Holds7.later {v : Value} {b : Bool} {w W : World} (h : Holds7 v b w) (hb : Below w.heap.size w W) : Holds7 v b W := by
 obtain ⟨g, lb, e, eg, hp⟩ := h
 exact ⟨g, lb, e, eg, fun W' hb' => hp W' (below_next hb hb')⟩

def AskRow7 (w : World) (B : Nat) (l : List (Value × Int)) : Prop := B < w.heap.size ∧ ∀ j (h : j < l.length), w.cell? ⟨B, j, none⟩ = some l[j].1 ∧ Ask7 l[j].1 l[j].2 w
theorem AskRow7.later {w W : World} {B : Nat} {l : List (Value × Int)} (h : AskRow7 w B l) (hb : Below w.heap.size w W) : AskRow7 W B l :=
 ⟨Nat.lt_of_lt_of_le h.1 hb.size, fun j hj => ⟨(hb.cell (p := ⟨B, j, none⟩) h.1).trans (h.2 j hj).1, (h.2 j hj).2.later hb⟩⟩

end Go.Proofs.YthlgmkfofebbfaaGreatDoor


namespace Go.Proofs.YthlgmkfofebbfaaGreatDoor
open Go.Maps

abbrev Row7 := List (List UInt8 × List UInt8)

def Rise7 (L : Row7) : Prop := L.Pairwise (fun p q => bytesBefore p.1 q.1 = true)

def entE (p : List UInt8 × List UInt8) : Lit × DataW Unit := (.string p.1, .lit (.string p.2))
def datE (L : Row7) : DataW Unit := .map (L.map entE)

def insE (x : List UInt8 × List UInt8) : Row7 → Row7
 | [] => [x]
 | y :: r => if bytesBefore x.1 y.1 then x :: y :: r else y :: insE x r
def delE (L : Row7) (k : List UInt8) : Row7 := L.filter (fun p => !(p.1 == k))
def putE (L : Row7) (k v : List UInt8) : Row7 := insE (k, v) (delE L k)
def hasE (L : Row7) (k : List UInt8) : Bool := L.any (fun p => p.1 == k)
def getE (L : Row7) (k : List UInt8) : List UInt8 := match L.find? (fun p => p.1 == k) with | some p => p.2 | none => []

theorem datE_ins (x : List UInt8 × List UInt8) : ∀ L : Row7, (insE x L).map entE = DataW.insert (entE x) (L.map entE)
 | [] => rfl
 | y :: r => by
  simp only [insE, List.map_cons, DataW.insert]
  have e : (entE x).1.before (entE y).1 = bytesBefore x.1 y.1 := rfl
  rw [e]
  cases bytesBefore x.1 y.1
  ·
   simp [datE_ins x r]
  ·
   simp

theorem datE_fil (k : List UInt8) : ∀ L : Row7, (delE L k).map entE = (L.map entE).filter (fun p => !p.1.sameKey (.string k))
 | [] => rfl
 | y :: r => by
  have ih := datE_fil k r
  unfold delE at ih ⊢
  have e : (entE y).1.sameKey (.string k) = (y.1 == k) := rfl
  simp only [List.filter_cons, List.map_cons, e]
  cases (y.1 == k) <;> simp [ih]

theorem datE_put (L : Row7) (k v : List UInt8) : (datE L).put (.string k) (.lit (.string v)) = datE (putE L k v) := by
 unfold datE putE
 rw [datE_ins, datE_fil]; rfl
theorem datE_del (L : Row7) (k : List UInt8) : (datE L).del (.string k) = datE (delE L k) := by
 unfold datE
 rw [datE_fil]; rfl
theorem datE_has (L : Row7) (k : List UInt8) : Maps.has (datE L) (.string k) = hasE L k := by
 unfold datE hasE
 rw [Maps.has_eq, List.any_map]; rfl
theorem datE_at (L : Row7) (k : List UInt8) : (datE L).atKey (.string k) (.lit (.string [])) = .lit (.string (getE L k)) := by
 unfold datE getE
 unfold DataW.atKey
 simp only [List.find?_map]
 have e : ((fun p : Lit × DataW Unit => p.1.sameKey (.string k)) ∘ entE) = (fun p => p.1 == k) := rfl
 rw [e]
 cases L.find? (fun p => p.1 == k) <;> rfl
theorem datE_size (L : Row7) : Maps.size (datE L) = L.length := by simp [datE, Maps.size]

/-! ### the order -/
theorem before_cmp : ∀ a b : List UInt8, decide (Lib.compareBytes a b < 0) = bytesBefore a b
 | [], [] => by simp [Lib.compareBytes, bytesBefore]
 | [], _ :: _ => by simp [Lib.compareBytes, bytesBefore]
 | _ :: _, [] => by simp [Lib.compareBytes, bytesBefore]
 | a :: r, b :: s => by
  unfold Lib.compareBytes bytesBefore
  by_cases h : a < b
  ·
   simp [h]
  ·
   by_cases h2 : b < a
   ·
    have hn : a ≠ b := fun e => by subst e; exact h h2
    simp [h, h2, hn]
   ·
    have e : a = b := by
     have h1 := UInt8.not_lt.1 h; have h3 := UInt8.not_lt.1 h2
     exact UInt8.le_antisymm h3 h1
    subst e
    simp [before_cmp r s]

theorem before_irrefl (a : List UInt8) : bytesBefore a a = false := WideAt.bytes_irrefl a
theorem before_ne {a b : List UInt8} (h : bytesBefore a b = true) : a ≠ b := fun e => by subst e; rw [before_irrefl] at h; cases h
theorem before_anti {a b : List UInt8} (h : bytesBefore a b = true) : bytesBefore b a = false := by
 cases hb : bytesBefore b a
 ·
  rfl
 ·
  exact absurd (WideShapes.bytes_trans _ _ _ h hb) (by rw [before_irrefl]; exact Bool.noConfusion)

theorem rise_del {L : Row7} (h : Rise7 L) (k : List UInt8) : Rise7 (delE L k) := h.filter _
theorem mem_ins {x y : List UInt8 × List UInt8} : ∀ {L : Row7}, y ∈ insE x L ↔ y = x ∨ y ∈ L
 | [] => by simp [insE]
 | z :: r => by
  unfold insE
  split
  ·
   simp
  ·
   simp only [List.mem_cons, mem_ins (L := r)]
   constructor
   ·
    rintro (h | h | h)
    ·
     exact .inr (.inl h)
    ·
     exact .inl h
    ·
     exact .inr (.inr h)
   ·
    rintro (h | h | h)
    ·
     exact .inr (.inl h)
    ·
     exact .inl h
    ·
     exact .inr (.inr h)
theorem rise_ins {x : List UInt8 × List UInt8} : ∀ {L : Row7}, Rise7 L → (∀ p ∈ L, p.1 ≠ x.1) → Rise7 (insE x L)
 | [], _, _ => by simp [insE, Rise7]
 | y :: r, h, hn => by
  unfold insE
  obtain ⟨h1, h2⟩ := List.pairwise_cons.1 h
  split
  ·
   rename_i hb
   exact List.pairwise_cons.2 ⟨fun p hp => by
    rcases List.mem_cons.1 hp with rfl | hp
    ·
     exact hb
    ·
     exact WideShapes.bytes_trans _ _ _ hb (h1 p hp), h⟩
  ·
   rename_i hb
   have hyx : bytesBefore y.1 x.1 = true := by
    rcases WideAt.bytes_total y.1 x.1 (hn y (by simp)) with h' | h'
    ·
     exact h'
    ·
     exact absurd h' hb
   exact List.pairwise_cons.2 ⟨fun p hp => by
    rcases mem_ins.1 hp with rfl | hp
    ·
     exact hyx
    ·
     exact h1 p hp, rise_ins h2 (fun p hp => hn p (by simp [hp]))⟩
theorem mem_del {L : Row7} {k : List UInt8} {p : List UInt8 × List UInt8} : p ∈ delE L k ↔ p ∈ L ∧ p.1 ≠ k := by
 unfold delE; simp
theorem rise_put {L : Row7} (h : Rise7 L) (k v : List UInt8) : Rise7 (putE L k v) :=
 rise_ins (rise_del h k) (fun _ hp => (mem_del.1 hp).2)

theorem ins_length (x : List UInt8 × List UInt8) : ∀ L : Row7, (insE x L).length = L.length + 1
 | [] => rfl
 | y :: r => by unfold insE; split <;> simp [ins_length x r]
theorem hasE_iff {L : Row7} {k : List UInt8} : hasE L k = true ↔ ∃ p ∈ L, p.1 = k := by simp [hasE]
theorem del_of_not {L : Row7} {k : List UInt8} (h : hasE L k = false) : delE L k = L := by
 unfold delE; rw [List.filter_eq_self]
 intro p hp
 cases e : (p.1 == k)
 ·
  rfl
 ·
  have : hasE L k = true := hasE_iff.2 ⟨p, hp, by simpa using e⟩
  rw [h] at this; cases this
theorem del_length {L : Row7} (hr : Rise7 L) {k : List UInt8} (h : hasE L k = true) : (delE L k).length + 1 = L.length := by
 induction L with
 | nil => simp [hasE] at h
 | cons y r ih =>
  obtain ⟨h1, h2⟩ := List.pairwise_cons.1 hr
  by_cases e : y.1 = k
  ·
   have hn : hasE r k = false := by
    cases hh : hasE r k
    ·
     rfl
    ·
     obtain ⟨p, hp, hk⟩ := hasE_iff.1 hh
     exact absurd (h1 p hp) (by rw [e, hk, before_irrefl]; exact Bool.noConfusion)
   have e2 := del_of_not hn
   unfold delE at e2 ⊢
   simp [e, e2]
  ·
   have hh : hasE r k = true := by
    obtain ⟨p, hp, hk⟩ := hasE_iff.1 h
    rcases List.mem_cons.1 hp with rfl | hp
    ·
     exact absurd hk e
    ·
     exact hasE_iff.2 ⟨p, hp, hk⟩
   have := ih h2 hh
   unfold delE at this ⊢
   have e' : (y.1 == k) = false := by simpa using e
   rw [List.filter_cons]
   simp only [e', Bool.not_false, if_true, List.length_cons]
   omega
theorem put_length {L : Row7} (hr : Rise7 L) (k v : List UInt8) : (putE L k v).length = if hasE L k then L.length else L.length + 1 := by
 unfold putE
 rw [ins_length]
 cases h : hasE L k
 ·
  rw [del_of_not h]; simp
 ·
  have := del_length hr h; simp; omega

theorem get_mem {L : Row7} (hr : Rise7 L) {q : List UInt8 × List UInt8} (h : q ∈ L) : getE L q.1 = q.2 := by
 induction L with
 | nil => cases h
 | cons y r ih =>
  obtain ⟨h1, h2⟩ := List.pairwise_cons.1 hr
  rcases List.mem_cons.1 h with rfl | h
  ·
   simp [getE]
  ·
   have hne : (y.1 == q.1) = false := by
    have := before_ne (h1 q h)
    simpa using this
   have := ih h2 h
   unfold getE at this ⊢
   rw [List.find?_cons, hne]
   exact this

/-! ### sorting what a map gave -/
theorem sort_names {L : Row7} (hr : Rise7 L) {ss : List (List UInt8)} (hp : ss.Perm (L.map (·.1))) (le : List UInt8 → List UInt8 → Bool) (hle : ∀ x y, le x y = !bytesBefore y x) : ss.mergeSort le = L.map (·.1) := by
 have htr : ∀ a b c, le a b = true → le b c = true → le a c = true := by
  intro a b c h1 h2
  rw [hle] at *
  simp only [Bool.not_eq_eq_eq_not, Bool.not_true] at *
  cases hca : bytesBefore c a
  ·
   rfl
  ·
   by_cases e : a = b
   ·
    subst e; rw [hca] at h2; cases h2
   ·
    rcases WideAt.bytes_total a b e with h | h
    ·
     rw [WideShapes.bytes_trans _ _ _ hca h] at h2; cases h2
    ·
     rw [h] at h1; cases h1
 have htot : ∀ a b, (le a b || le b a) = true := by
  intro a b
  rw [hle, hle]
  cases h : bytesBefore b a
  ·
   rfl
  ·
   rw [before_anti h]; rfl
 have hs : (ss.mergeSort le).Pairwise (fun a b => le a b = true) := List.pairwise_mergeSort htr htot ss
 have hq : (ss.mergeSort le).Perm (L.map (·.1)) := (List.mergeSort_perm ss le).trans hp
 have hL : (L.map (·.1)).Pairwise (fun a b => le a b = true) := by
  rw [List.pairwise_map]
  exact hr.imp (fun h => by rw [hle, before_anti h]; rfl)
 refine List.Perm.eq_of_pairwise (le := fun a b => le a b = true) ?_ hs hL hq
 intro a b _ _ h1 h2
 rw [hle] at h1 h2
 by_cases e : a = b
 ·
  exact e
 ·
  rcases WideAt.bytes_total a b e with h | h
  ·
   rw [h] at h2; cases h2
  ·
   rw [h] at h1; cases h1

end Go.Proofs.YthlgmkfofebbfaaGreatDoor


namespace Go.Proofs.YthlgmkfofebbfaaGreatDoor
open Go.RowKit

structure Turns (S : Nat → Prop) (w w' : World) : Prop where
 os : w'.os = w.os
 tape : w'.tape = w.tape
 output : w'.output = w.output
 size : w.heap.size ≤ w'.heap.size
 block : ∀ k, k < w.heap.size → ¬ S k → w'.heap[k]? = w.heap[k]?

section
variable {S S' : Nat → Prop} {a w w' : World}
theorem Turns.refl (S : Nat → Prop) (w : World) : Turns S w w := ⟨rfl, rfl, rfl, Nat.le_refl _, fun _ _ _ => rfl⟩
theorem Turns.next (h : Turns S a w) (k : Turns S' w w') (hs : ∀ i, i < a.heap.size → S' i → S i) : Turns S a w' :=
 ⟨k.os.trans h.os, k.tape.trans h.tape, k.output.trans h.output, Nat.le_trans h.size k.size,
  fun i hi hn => (k.block i (Nat.lt_of_lt_of_le hi h.size) (fun hc => hn (hs i hi hc))).trans (h.block i hi hn)⟩
theorem Turns.mono (h : Turns S a w) (hs : ∀ i, i < a.heap.size → S i → S' i) : Turns S' a w :=
 ⟨h.os, h.tape, h.output, h.size, fun i hi hn => h.block i hi (fun hc => hn (hs i hi hc))⟩
theorem Turns.drew (h : Turns S a w) : Turns S a w.drew := ⟨h.os, h.tape, h.output, h.size, h.block⟩
theorem Turns.drewN (h : Turns S a w) (n : Nat) : Turns S a (w.drewN n) := ⟨h.os, h.tape, h.output, h.size, h.block⟩
theorem Turns.alloc (h : Turns S a w) (o : Obj) : Turns S a (w.alloc o) :=
 h.next (S' := fun _ => False) ⟨rfl, rfl, rfl, by simp, fun k hk _ => Below.heap_alloc _ _ _ hk⟩ (fun _ _ hf => hf.elim)
theorem Turns.setCell (h : Turns S a w) {p : Addr} (hp : p.block < a.heap.size → S p.block) (u : Value) : Turns S a (w.setCell p u) :=
 h.next (S' := fun i => i = p.block) ⟨rfl, rfl, rfl, by simp [World.setCell], fun k _ hk => Below.heap_setCell _ _ _ _ hk⟩ (fun i hi he => by subst he; exact hp hi)
theorem Turns.grown (h : Turns S a w) {row : Option Nat} (hg : w.grownBy w' row) (hr : ∀ k, row = some k → k < a.heap.size → S k) : Turns S a w' :=
 h.next (S' := fun i => row = some i) ⟨hg.os, hg.tape, hg.output, hg.size, fun k hk hn => hg.block k hk (fun e => hn e.symm)⟩ (fun i hi he => hr i he hi)
theorem Turns.below (h : Turns S a w) (hs : ∀ i, S i → a.heap.size ≤ i) : Below a.heap.size a w :=
 ⟨h.os, h.tape, h.output, h.size, fun k hk => h.block k hk (fun hc => by have := hs k hc; omega)⟩
theorem Turns.of_below (h : Below a.heap.size a w) (S : Nat → Prop) : Turns S a w := ⟨h.os, h.tape, h.output, h.size, fun k hk _ => h.block k hk⟩
theorem Turns.below_at (h : Turns S a w) {B : Nat} (hB : B ≤ a.heap.size) (hs : ∀ i, S i → B ≤ i) : Below B a w :=
 ⟨h.os, h.tape, h.output, h.size, fun k hk => h.block k (by omega) (fun hc => by have := hs k hc; omega)⟩
theorem Turns.cell (h : Turns S a w) {p : Addr} (hl : p.block < a.heap.size) (hn : ¬ S p.block) : w.cell? p = a.cell? p := World.cell?_of_block (h.block p.block hl hn)
theorem Turns.owns {e : TypeId} {size n : Nat} {v : Value} {xs : List Value} (h : Turns S a w) (ho : a.ownsRow 0 e size v n xs) (hn : ∀ k, v.ownBlock = some k → ¬ S k) : w.ownsRow 0 e size v n xs := by
 refine ⟨ho.1, ?_⟩
 rcases ho.2 with h0 | ⟨g, cap, cur, rfl, hb, hg, rest⟩
 ·
  exact .inl h0
 ·
  exact .inr ⟨g, cap, cur, rfl, hb, (h.block g (Array.getElem?_eq_some_iff.1 hg).1 (hn g rfl)).trans hg, rest⟩
end

def cellsOf (l : List UInt8) : List Value := l.map fun b => Value.int .u8 b.toNat
theorem cellsOf_length (l : List UInt8) : (cellsOf l).length = l.length := by simp [cellsOf]
theorem cellsOf_one (l : List UInt8) : ∀ u ∈ cellsOf l, u.oneCell' = true := by
 intro u hu
 obtain ⟨_, _, rfl⟩ := List.mem_map.1 hu
 rfl

theorem owns_shape {w : World} {e : TypeId} {size n : Nat} {v : Value} {xs : List Value} (h : w.ownsRow 0 e size v n xs) : ∃ A c, v = .slice A n c := by
 rcases h.2 with ⟨rfl, rfl⟩ | ⟨g, cap, cur, rfl, _⟩
 ·
  exact ⟨_, _, rfl⟩
 ·
  exact ⟨_, _, rfl⟩

section
variable {P : Program} (w : World)
theorem run_append_src (t tx ty e : TypeId) (i : TypeInfo) (z : Value) (size bytes : Nat) (ht : P.underlying t = some (.slice e)) (hi : P.info? e = some i) (hz : i.zero = some z)
  (hsize : i.size = size) (hby : i.bytes = bytes) (hzs : z.cells.size = size)
  (v : Value) (n : Nat) (xs : List Value) (hown : w.ownsRow 0 e size v n xs) (x : Value) (m : Nat) (news : List Value) (hs : Src P size tx x m news w)
  (h63 : n + m ≤ maxLen) (hbytes : (n + m) * bytes ≤ 140737488355328) :
  ∃ v' w', (Builtin.append_ #[t, tx] ty #[v, x]).run P w = .ok v' w' ∧ w'.ownsRow 0 e size v' (n + m) (xs ++ news) ∧ w.grownBy w' v.ownBlock ∧
   (v'.ownBlock = v.ownBlock ∨ v'.ownBlock = some w.heap.size) := by
 subst hsize
 subst hby
 have hlen : (xs ++ news).length = (n + m) * i.size := by rw [List.length_append, hown.1, hs.newsLen, Nat.add_mul]
 have fresh : ∀ old : Nat, ∀ row : Option Nat,
   (w.drew.alloc (.cells ((xs ++ news).toArray ++ Builtin.zeroCells z.cells (grownCap w (n + m) old e - (n + m))) e)).ownsRow 0 e i.size
    (.slice (some ⟨w.heap.size, 0, none⟩) (n + m) (grownCap w (n + m) old e)) (n + m) (xs ++ news) ∧
   w.grownBy (w.drew.alloc (.cells ((xs ++ news).toArray ++ Builtin.zeroCells z.cells (grownCap w (n + m) old e - (n + m))) e)) row := by
  intro old row
  have hge := grownCap_ge w (n + m) old e
  have hcm : grownCap w (n + m) old e ≤ maxLen := grownCap_le_maxLen w (n + m) old e h63
  refine ⟨⟨hlen, .inr ⟨w.heap.size, _, _, rfl, Nat.zero_le _, heap_alloc_new w.drew _, hge, hcm, ?_, ?_⟩⟩, ⟨rfl, rfl, rfl, by simp, fun k hk _ => Below.heap_alloc w.drew _ k hk⟩⟩
  ·
   simp only [Array.size_append, List.size_toArray, size_zeroCells, hzs, hlen, ← Nat.add_mul]
   congr 1
   omega
  ·
   rw [Array.toList_append, ← hlen]
   exact List.take_left
 have hsmall : ((n + m : Nat) : Int) ≤ 9223372036854775807 := by simp only [maxLen] at h63; omega
 rcases hown.2 with ⟨rfl, rfl⟩ | ⟨g, cap, cur, rfl, hbg, hg, hnc, hcm, hcs, htake⟩
 ·
  have hx : xs = [] := List.eq_nil_of_length_eq_zero (by simpa using hown.1)
  subst hx
  by_cases hm : m = 0
  ·
   subst hm
   have hn : news = [] := List.eq_nil_of_length_eq_zero (by simpa using hs.newsLen)
   subst hn
   refine ⟨.slice none 0 0, w, ?_, World.ownsRow_nil w 0 e i.size, ⟨rfl, rfl, rfl, Nat.le_refl _, fun _ _ _ => rfl⟩, Or.inl rfl⟩
   rcases hs.kind with ⟨e', hk⟩ | hk <;> simp [Builtin.append_, run_underlying ht, run_underlying hk, sizeOf, typeInfo, hi, hs.len, hs.cells]
  ·
   have hr := run_append_grow_src (P := P) w t tx ty e i z ht hi hz none 0 0 [] (run_firstCells_none w.drew i.size 0 0 0) x m news hs (by omega) hsmall (growslice_fits (by omega) hbytes)
   have hf := fresh 0 (Value.ownBlock (.slice none 0 0))
   exact ⟨_, _, hr, hf.1, hf.2, Or.inr rfl⟩
 ·
  by_cases hroom : n + m ≤ cap
  ·
   have hfit : n * i.size + news.length ≤ cur.size := by rw [hs.newsLen, hcs, ← Nat.add_mul]; exact Nat.mul_le_mul_right _ hroom
   have hst := run_storeCells_at P g (n * i.size) e news 0 cur w hg (by simpa using hfit) hs.one
   simp only [Nat.add_zero] at hst
   refine ⟨.slice (some ⟨g, 0, none⟩) (n + m) cap, w.setRow g (cur.toList.take (n * i.size) ++ news ++ cur.toList.drop (n * i.size + news.length)).toArray, ?_,
    ⟨hlen, .inr ⟨g, cap, _, rfl, hbg, setRow_heap w g cur _ e _ hg, hroom, hcm, ?_, ?_⟩⟩, ⟨rfl, rfl, rfl, by simp, fun k _ hk => setRow_other w g k _ (fun e => hk (by simp [Value.ownBlock, e]))⟩, Or.inl rfl⟩
   ·
    rcases hs.kind with ⟨e', hk⟩ | hk <;> simp [Builtin.append_, run_underlying ht, run_underlying hk, sizeOf, typeInfo, hi, hs.len, hroom, hs.cells, Addr.add_lit, hst]
   ·
    simp only [List.size_toArray, List.length_append, List.length_take, List.length_drop, Array.length_toList]
    omega
   ·
    rw [htake, ← hlen]
    exact List.take_left
  ·
   have holds : ∀ j u, xs[j]? = some u → w.drew.cell? ((⟨g, 0, none⟩ : Addr).add j) = some u := hown.cells (g := g) rfl
   have hr := run_append_grow_src (P := P) w t tx ty e i z ht hi hz (some ⟨g, 0, none⟩) n cap xs (run_firstCells_some w.drew i.size n ⟨g, 0, none⟩ n cap xs hown.1 holds) x m news hs (by omega) hsmall (growslice_fits (by omega) hbytes)
   have hf := fresh cap (Value.ownBlock (.slice (some ⟨g, 0, none⟩) n cap))
   exact ⟨_, _, hr, hf.1, hf.2, Or.inr rfl⟩

theorem wp_append_src {o : Oper} {a : Act} {K : Act → World → Prop} {Q : Exit → Act → World → Prop} (s x : Operand) (t tx : TypeId)
  (ho : o.op = .call { callee := .builtin .append, args := #[s, x], argTypes := #[t, tx] })
  (e : TypeId) (i : TypeInfo) (z : Value) (size bytes : Nat) (ht : P.underlying t = some (.slice e)) (hi : P.info? e = some i) (hz : i.zero = some z)
  (hsize : i.size = size) (hby : i.bytes = bytes) (hzs : z.cells.size = size)
  (v : Value) (n : Nat) (xs : List Value) (hv : a.eval s = v) (hown : w.ownsRow 0 e size v n xs) (y : Value) (m : Nat) (news : List Value) (hx : a.eval x = y) (hs : Src P size tx y m news w)
  (h63 : n + m ≤ maxLen) (hbytes : (n + m) * bytes ≤ 140737488355328)
  (h : ∀ A c w', w'.ownsRow 0 e size (.slice A (n + m) c) (n + m) (xs ++ news) → w.grownBy w' v.ownBlock → (Value.ownBlock (.slice A (n + m) c) = v.ownBlock ∨ Value.ownBlock (.slice A (n + m) c) = some w.heap.size) → K (a.put o.dst (.slice A (n + m) c)) w') : o.wp P a w K Q := by
 obtain ⟨v', w', hr, h2, h3, h4⟩ := run_append_src (P := P) w t tx o.type e i z size bytes ht hi hz hsize hby hzs v n xs hown y m news hs h63 hbytes
 unfold Oper.wp execOp
 simp only [ho, resolve, invoke, builtin, Sem.run_bind, Sem.run_pure, Result.andThen_ok, List.map_toArray, List.map_cons, List.map_nil, hv, hx, hr]
 obtain ⟨A, c, rfl⟩ := owns_shape h2
 exact h A c w' h2 h3 h4

theorem wpList_append_src {ops : Array Oper} {rest : List Oper} {o : Oper} {a : Act} {Q : Exit → Act → World → Prop} (hgd : o.guard = none) (s x : Operand) (t tx : TypeId)
  (ho : o.op = .call { callee := .builtin .append, args := #[s, x], argTypes := #[t, tx] })
  (e : TypeId) (i : TypeInfo) (z : Value) (size bytes : Nat) (ht : P.underlying t = some (.slice e)) (hi : P.info? e = some i) (hz : i.zero = some z)
  (hsize : i.size = size) (hby : i.bytes = bytes) (hzs : z.cells.size = size)
  (v : Value) (n : Nat) (xs : List Value) (hv : a.eval s = v) (hown : w.ownsRow 0 e size v n xs) (y : Value) (m : Nat) (news : List Value) (hx : a.eval x = y) (hs : Src P size tx y m news w)
  (h63 : n + m ≤ maxLen) (hbytes : (n + m) * bytes ≤ 140737488355328)
  (h : ∀ A c w', w'.ownsRow 0 e size (.slice A (n + m) c) (n + m) (xs ++ news) → w.grownBy w' v.ownBlock → (Value.ownBlock (.slice A (n + m) c) = v.ownBlock ∨ Value.ownBlock (.slice A (n + m) c) = some w.heap.size) → wpList P ops Q rest (a.put o.dst (.slice A (n + m) c)) w') : wpList P ops Q (o :: rest) a w :=
 wpList_plain hgd fun _ hK => wp_append_src w s x t tx ho e i z size bytes ht hi hz hsize hby hzs v n xs hv hown y m news hx hs h63 hbytes fun A c w' h2 h3 h4 => hK _ _ (h A c w' h2 h3 h4)

end

def Rd (w : World) (v : Value) (l : List UInt8) : Prop :=
 ∃ A c, v = .slice A l.length c ∧ (l ≠ [] → ∃ ad : Addr, A = some ad ∧ ad.block < w.heap.size ∧ ∀ j u, (cellsOf l)[j]? = some u → w.cell? (ad.add j) = some u)

theorem add_block (a : Addr) (n : Nat) : (a.add n).block = a.block := by unfold Addr.add; split <;> rfl

section
variable {w w' : World} {v : Value} {l : List UInt8}
theorem Rd.of_own {e : TypeId} (h : w.ownsRow 0 e 1 v l.length (cellsOf l)) : Rd w v l := by
 obtain ⟨A, c, rfl⟩ := owns_shape h
 refine ⟨A, c, rfl, fun hn => ?_⟩
 have hp : 0 < l.length := by cases l with | nil => exact absurd rfl hn | cons _ _ => simp
 obtain ⟨g, cap, hv, _, hlt⟩ := h.form hp
 have hA : A = some ⟨g, 0, none⟩ := by injection hv
 subst hA
 exact ⟨_, rfl, hlt, h.cells (g := g) rfl⟩
theorem Rd.turns {S : Nat → Prop} (h : Rd w v l) (ht : Turns S w w') (hn : ∀ k, v.ownBlock = some k → ¬ S k) : Rd w' v l := by
 obtain ⟨A, c, rfl, hc⟩ := h
 refine ⟨A, c, rfl, fun hl => ?_⟩
 obtain ⟨ad, rfl, hb, hcell⟩ := hc hl
 exact ⟨ad, rfl, Nat.lt_of_lt_of_le hb ht.size, fun j u hu => (ht.cell (by rw [add_block]; exact hb) (by rw [add_block]; exact hn _ rfl)).trans (hcell j u hu)⟩
theorem Rd.still (h : Rd w v l) (ht : Turns (fun _ => False) w w') : Rd w' v l := h.turns ht (fun _ _ f => f)
theorem Rd.src {P : Program} {t e : TypeId} (h : Rd w v l) (hk : P.underlying t = some (.slice e)) : Src P 1 t v l.length (cellsOf l) w := by
 obtain ⟨A, c, rfl, hc⟩ := h
 by_cases hl : l = []
 ·
  subst hl
  cases A with
  | none => exact Src.ofNil w hk c
  | some ad => exact Src.ofSlice w hk ad 0 c [] rfl (fun j u hu => by simp at hu) (fun u hu => by cases hu)
 ·
  obtain ⟨ad, rfl, _, hcell⟩ := hc hl
  exact Src.ofSlice w hk ad l.length c _ (by simp [cellsOf_length]) hcell (cellsOf_one l)
theorem Rd.string {P : Program} {src dst e : TypeId} (h : Rd w v l) (hs : P.underlying src = some (.slice e)) (he : P.underlying e = some (.int .u8)) (hd : P.underlying dst = some .string) :
  (convert src dst v).run P w = .ok (.string ⟨l.toArray⟩) w := by
 obtain ⟨A, c, rfl, hc⟩ := h
 cases A with
 | none =>
  have hl : l = [] := by
   by_cases hl : l = []
   ·
    exact hl
   ·
    obtain ⟨ad, h, _⟩ := hc hl
    cases h
  subst hl
  rw [run_convert_bytes_string w src dst e none _ c hs he hd]
  simp [Conv.bytesToString]
  rfl
 | some ad =>
  refine run_convert_bytes_back w src dst e ad c l hs he hd (fun j hj => ?_)
  obtain ⟨ad', h, _, hcell⟩ := hc (by intro h; subst h; simp at hj)
  injection h with h
  subst h
  exact hcell j _ (by simp [cellsOf, List.getElem?_eq_getElem hj])
end
theorem Rd.at_ {w : World} {v : Value} {l : List UInt8} (h : Rd w v l) (k : Nat) (hk : k < l.length) : ∃ g off c, v = .slice (some ⟨g, off, none⟩) l.length c ∧ w.cell? ⟨g, off + k, none⟩ = some (.int .u8 (l[k].toNat : Int)) := by
 obtain ⟨A, c, rfl, h⟩ := h
 obtain ⟨ad, rfl, hb, hc⟩ := h (by intro e; subst e; simp at hk)
 have h1 := hc k (.int .u8 (l[k].toNat : Int)) (by simp [cellsOf, List.getElem?_eq_getElem hk])
 have h0 := hc 0 (.int .u8 (l[0].toNat : Int)) (by simp [cellsOf, List.getElem?_eq_getElem (show 0 < l.length by omega)])
 have hs : (ad.add 0).spot = none := World.cell?_spot h0
 obtain ⟨g, off, sp⟩ := ad
 have hsp : sp = none := by
  cases sp with
  | none => rfl
  | some p => simp [Addr.add] at hs
 subst hsp
 rw [Addr.add_lit] at h1
 exact ⟨g, off, c, rfl, h1⟩
theorem Rd.shape {w : World} {v : Value} {l : List UInt8} (h : Rd w v l) : ∃ A c, v = .slice A l.length c := by
 obtain ⟨A, c, rfl, _⟩ := h
 exact ⟨A, c, rfl⟩

theorem Rd.turns2 {S : Nat → Prop} {w w' : World} {v : Value} {l : List UInt8} (h : Rd w v l) (ht : Turns S w w') (hn : l ≠ [] → ∀ k, v.ownBlock = some k → ¬ S k) : Rd w' v l := by
 obtain ⟨A, c, rfl, hc⟩ := h
 refine ⟨A, c, rfl, fun hl => ?_⟩
 obtain ⟨ad, rfl, hb, hcell⟩ := hc hl
 exact ⟨ad, rfl, Nat.lt_of_lt_of_le hb ht.size, fun j u hu => (ht.cell (by rw [add_block]; exact hb) (by rw [add_block]; exact hn hl _ rfl)).trans (hcell j u hu)⟩
theorem Rd.lt {w : World} {v : Value} {l : List UInt8} (h : Rd w v l) (hl : l ≠ []) : ∀ k, v.ownBlock = some k → k < w.heap.size := by
 intro k hk
 obtain ⟨A, c, rfl, hc⟩ := h
 obtain ⟨ad, rfl, hb, _⟩ := hc hl
 have : ad.block = k := by simpa [Value.ownBlock] using hk
 omega
def RdC (w : World) (v : Value) (l : List UInt8) : Prop := Rd w v l ∧ ∃ A c, v = .slice A l.length c ∧ l.length ≤ c ∧ c ≤ 9223372036854775807
theorem RdC.form {w : World} {v : Value} {l : List UInt8} (h : RdC w v l) (hl : l ≠ []) : ∃ g off c, v = .slice (some ⟨g, off, none⟩) l.length c ∧ l.length ≤ c ∧ c ≤ 9223372036854775807 ∧ g < w.heap.size ∧ ∀ j (hj : j < l.length), w.cell? ⟨g, off + j, none⟩ = some (.int .u8 (l[j].toNat : Int)) := by
 obtain ⟨hr, A, c, rfl, h1, h2⟩ := h
 have hp : 0 < l.length := List.length_pos_iff.2 hl
 obtain ⟨g, off, c', he, _⟩ := hr.at_ 0 hp
 injection he with hA _ hc
 subst hA hc
 refine ⟨g, off, c, rfl, h1, h2, ?_, fun j hj => ?_⟩
 ·
  exact hr.lt hl g rfl
 ·
  obtain ⟨g', off', c', he, hcell⟩ := hr.at_ j hj
  injection he with hA _ hc
  injection hA with hA
  injection hA with hg ho _
  subst hg ho hc
  exact hcell
theorem RdC.of_own {w : World} {v : Value} {l : List UInt8} {e : TypeId} (h : w.ownsRow 0 e 1 v l.length (cellsOf l)) : RdC w v l := by
 refine ⟨Rd.of_own h, ?_⟩
 rcases h.2 with ⟨rfl, hn⟩ | ⟨g, cap, cur, rfl, _, _, h1, h2, _⟩
 ·
  exact ⟨none, 0, by rw [hn], by omega, by omega⟩
 ·
  exact ⟨_, cap, rfl, h1, by simpa [maxLen] using h2⟩
theorem RdC.turns {S : Nat → Prop} {w w' : World} {v : Value} {l : List UInt8} (h : RdC w v l) (ht : Turns S w w') (hn : l ≠ [] → ∀ k, v.ownBlock = some k → ¬ S k) : RdC w' v l := ⟨h.1.turns2 ht hn, h.2⟩
theorem RdC.still {w w' : World} {v : Value} {l : List UInt8} (h : RdC w v l) (ht : Turns (fun _ => False) w w') : RdC w' v l := h.turns ht (fun _ _ _ f => f)
theorem RdC.shape {w : World} {v : Value} {l : List UInt8} (h : RdC w v l) : ∃ A c, v = .slice A l.length c := h.1.shape
end Go.Proofs.YthlgmkfofebbfaaGreatDoor


namespace Go.Proofs.YthlgmkfofebbfaaGreatDoor
open Go.RowKit Go.Maps

theorem ownsMap_tight {H : Type} {w : World} {P : Program} {k : TypeId} {R : Value → Option (DataW H × List MemPlace)} {b n : Nat} {D : DataW H} (h : w.ownsMap P k R b n D) : w.ownsMap P k R b (Maps.size D) D := by
 obtain ⟨es, clock, hb, F, _, rfl⟩ := h
 have e1 : Maps.size (DataW.map ((es.toList.map (WideElems.rg P k R)).foldr DataW.insert [])) = es.size := by simp [Maps.size, length_sorted]
 exact ⟨es, clock, hb, F, by rw [e1]; exact Nat.le_refl _, rfl⟩

def Map7 (w : World) (b : Nat) (L : Row7) : Prop := w.ownsMap Tryz.prog 9 (plainElem Tryz.prog 9) b L.length (datE L)
theorem Map7.of {w : World} {b n : Nat} {L : Row7} (h : w.ownsMap Tryz.prog 9 (plainElem Tryz.prog 9) b n (datE L)) : Map7 w b L := by
 have := ownsMap_tight h
 rwa [datE_size] at this
theorem Map7.kept {w w' : World} {b : Nat} {L : Row7} (h : Map7 w b L) (hb : w'.heap[b]? = w.heap[b]?) : Map7 w' b L := by
 obtain ⟨es, clock, h1, r⟩ := h
 exact ⟨es, clock, hb.trans h1, r⟩

section
variable {w w' : World} {B : Nat} {p : Option Nat} {L : Row7}
end

theorem keyed7 : Keyed Tryz.prog 9 := string_keyed Tryz.underlying9
theorem zero7 (w : World) : (zeroValue 9).run Tryz.prog w = .ok (.string ⟨#[]⟩) w := by kernel_rfl
theorem key7 (s : ByteArray) (h : s.size ≤ maxLen) : keyOf Tryz.prog 9 (.string s) = some (.string s.data.toList) := WideMaps.keyOf_string_mk Tryz.underlying9 h

def tx7 (l : List UInt8) : ByteArray := ⟨l.toArray⟩
theorem tx7_list (l : List UInt8) : (tx7 l).data.toList = l := by simp [tx7]
theorem tx7_back (s : ByteArray) : tx7 s.data.toList = s := by simp [tx7]


end Go.Proofs.YthlgmkfofebbfaaGreatDoor


namespace Go.Proofs.YthlgmkfofebbfaaGreatDoor
open Go.RowKit Go.Maps

theorem turned_cells {w w' : World} {B b : Nat} (h : w.mapTurned w' b) (hne : b ≠ B) : w'.heap[B]? = w.heap[B]? := by
 obtain ⟨es, clock, es', clock', _, rfl⟩ := h
 exact ChangeMaps.heap_setBlock_other (by assumption) _ (fun e => hne e.symm)

end Go.Proofs.YthlgmkfofebbfaaGreatDoor


namespace Go.Proofs.YthlgmkfofebbfaaGreatDoor
open Go.Maps

structure Mirror9 (L M : Row7) : Prop where
 rl : Rise7 L
 rm : Rise7 M
 iff : ∀ n a, (n, a) ∈ L ↔ (a, n) ∈ M

def hasO (L : Row7) (a : List UInt8) : Bool := L.any (fun p => p.2 == a)
def ownO (L : Row7) (a : List UInt8) : List UInt8 := match L.find? (fun p => p.2 == a) with | some p => p.1 | none => []

theorem rise_one {L : Row7} (h : Rise7 L) {n a b : List UInt8} (ha : (n, a) ∈ L) (hb : (n, b) ∈ L) : a = b := by
 have h1 := get_mem h ha
 have h2 := get_mem h hb
 exact h1.symm.trans h2
theorem hasE_mem {L : Row7} {n : List UInt8} (h : hasE L n = true) : (n, getE L n) ∈ L := by
 unfold hasE at h
 unfold getE
 obtain ⟨p, hp, e⟩ := List.any_eq_true.1 h
 cases hf : L.find? (fun p => p.1 == n) with
 | none => exact absurd e (by simpa using List.find?_eq_none.1 hf p hp)
 | some q =>
  have h1 := List.mem_of_find?_eq_some hf
  have h2 := List.find?_some hf
  have : q.1 = n := by simpa using h2
  rw [← this]; exact h1
theorem mem_hasE {L : Row7} {n a : List UInt8} (h : (n, a) ∈ L) : hasE L n = true := hasE_iff.2 ⟨_, h, rfl⟩
theorem getE_none {L : Row7} {n : List UInt8} (h : hasE L n = false) : getE L n = [] := by
 unfold getE
 cases hf : L.find? (fun p => p.1 == n) with
 | none => rfl
 | some q =>
  have h1 := List.mem_of_find?_eq_some hf
  have h2 := List.find?_some hf
  have : hasE L n = true := hasE_iff.2 ⟨q, h1, by simpa using h2⟩
  rw [h] at this; cases this
theorem hasO_mem {L : Row7} {a : List UInt8} (h : hasO L a = true) : (ownO L a, a) ∈ L := by
 unfold hasO at h
 unfold ownO
 obtain ⟨p, hp, e⟩ := List.any_eq_true.1 h
 cases hf : L.find? (fun p => p.2 == a) with
 | none => exact absurd e (by simpa using List.find?_eq_none.1 hf p hp)
 | some q =>
  have h1 := List.mem_of_find?_eq_some hf
  have h2 := List.find?_some hf
  have : q.2 = a := by simpa using h2
  rw [← this]; exact h1
theorem mem_hasO {L : Row7} {n a : List UInt8} (h : (n, a) ∈ L) : hasO L a = true := List.any_eq_true.2 ⟨_, h, by simp⟩
theorem ownO_none {L : Row7} {a : List UInt8} (h : hasO L a = false) : ownO L a = [] := by
 unfold ownO
 cases hf : L.find? (fun p => p.2 == a) with
 | none => rfl
 | some q =>
  have h1 := List.mem_of_find?_eq_some hf
  have h2 := List.find?_some hf
  have : hasO L a = true := List.any_eq_true.2 ⟨q, h1, h2⟩
  rw [h] at this; cases this

theorem mem_putE {L : Row7} {k v : List UInt8} {q : List UInt8 × List UInt8} : q ∈ putE L k v ↔ q = (k, v) ∨ q ∈ L ∧ q.1 ≠ k := by
 unfold putE
 rw [mem_ins, mem_del]
theorem rise_ext {L M : Row7} (hl : Rise7 L) (hm : Rise7 M) (h : ∀ q, q ∈ L ↔ q ∈ M) : L = M := by
 have hnl : L.Nodup := hl.imp fun {a b} hb e => by subst e; rw [before_irrefl] at hb; cases hb
 have hnm : M.Nodup := hm.imp fun {a b} hb e => by subst e; rw [before_irrefl] at hb; cases hb
 have hp : L.Perm M := (List.perm_ext_iff_of_nodup hnl hnm).2 h
 refine List.Perm.eq_of_pairwise (le := fun (p q : List UInt8 × List UInt8) => bytesBefore p.1 q.1 = true) ?_ hl hm hp
 intro a b _ _ h1 h2
 rw [before_anti h1] at h2; cases h2

section
variable {L M : Row7}
theorem Mirror9.nil : Mirror9 [] [] := ⟨List.Pairwise.nil, List.Pairwise.nil, by simp⟩
theorem Mirror9.length (h : Mirror9 L M) : M.length = L.length := by
 have hnl : L.Nodup := h.rl.imp fun {a b} hb e => by subst e; rw [before_irrefl] at hb; cases hb
 have hnm : M.Nodup := h.rm.imp fun {a b} hb e => by subst e; rw [before_irrefl] at hb; cases hb
 have hn2 : (L.map fun p => (p.2, p.1)).Nodup := by
  unfold List.Nodup
  rw [List.pairwise_map]
  refine hnl.imp fun {a b} hb e => hb ?_
  injection e with e1 e2
  exact Prod.ext e2 e1
 have : (L.map fun p => (p.2, p.1)).Perm M := (List.perm_ext_iff_of_nodup hn2 hnm).2 fun q => by
  rw [List.mem_map]
  constructor
  ·
   rintro ⟨p, hp, rfl⟩
   exact (h.iff p.1 p.2).1 hp
  ·
   intro hq
   exact ⟨(q.2, q.1), (h.iff q.2 q.1).2 hq, rfl⟩
 have := this.length_eq
 rw [List.length_map] at this
 exact this.symm
theorem Mirror9.has (h : Mirror9 L M) (a : List UInt8) : hasE M a = hasO L a := by
 cases hh : hasO L a
 ·
  cases hm : hasE M a
  ·
   rfl
  ·
   have := mem_hasO ((h.iff _ _).2 (hasE_mem hm))
   rw [hh] at this; cases this
 ·
  exact mem_hasE ((h.iff _ _).1 (hasO_mem hh))
theorem Mirror9.get (h : Mirror9 L M) (a : List UInt8) : getE M a = ownO L a := by
 cases hh : hasO L a
 ·
  rw [ownO_none hh, getE_none (by rw [h.has, hh])]
 ·
  exact get_mem h.rm ((h.iff _ _).1 (hasO_mem hh))
theorem Mirror9.one (h : Mirror9 L M) {n k a : List UInt8} (h1 : (n, a) ∈ L) (h2 : (k, a) ∈ L) : n = k := rise_one h.rm ((h.iff _ _).1 h1) ((h.iff _ _).1 h2)
theorem Mirror9.own (h : Mirror9 L M) {n a : List UInt8} (h1 : (n, a) ∈ L) : ownO L a = n := h.one (hasO_mem (mem_hasO h1)) h1
theorem Mirror9.del (h : Mirror9 L M) {n : List UInt8} (hn : hasE L n = true) : Mirror9 (delE L n) (delE M (getE L n)) := by
 have hm := hasE_mem hn
 refine ⟨rise_del h.rl n, rise_del h.rm _, fun k b => ?_⟩
 rw [mem_del, mem_del]
 constructor
 ·
  rintro ⟨h1, h2⟩
  refine ⟨(h.iff _ _).1 h1, fun e => h2 ?_⟩
  have e' : b = getE L n := e
  subst e'
  exact h.one h1 hm
 ·
  rintro ⟨h1, h2⟩
  have h1' := (h.iff _ _).2 h1
  refine ⟨h1', fun e => h2 ?_⟩
  have e' : k = n := e
  subst e'
  exact rise_one h.rl h1' hm
theorem Mirror9.put (h : Mirror9 L M) {n a : List UInt8} (hn : hasE L n = false) (ha : hasO L a = false) : Mirror9 (putE L n a) (putE M a n) := by
 refine ⟨rise_put h.rl n a, rise_put h.rm a n, fun k b => ?_⟩
 rw [mem_putE, mem_putE]
 constructor
 ·
  rintro (e | ⟨h1, h2⟩)
  ·
   injection e with e1 e2; subst e1; subst e2; exact .inl rfl
  ·
   refine .inr ⟨(h.iff _ _).1 h1, fun e => ?_⟩
   have e' : b = a := e
   subst e'
   have := mem_hasO h1
   rw [ha] at this; cases this
 ·
  rintro (e | ⟨h1, h2⟩)
  ·
   injection e with e1 e2; subst e1; subst e2; exact .inl rfl
  ·
   have h1' := (h.iff _ _).2 h1
   refine .inr ⟨h1', fun e => ?_⟩
   have e' : k = n := e
   subst e'
   have := mem_hasE h1'
   rw [hn] at this; cases this
end

theorem hasE_del (L : Row7) (n : List UInt8) : hasE (delE L n) n = false := by
 cases h : hasE (delE L n) n
 ·
  rfl
 ·
  obtain ⟨p, hp, e⟩ := hasE_iff.1 h
  exact absurd e (mem_del.1 hp).2
theorem hasE_del_ne {L : Row7} {n k : List UInt8} (h : k ≠ n) : hasE (delE L n) k = hasE L k := by
 cases hh : hasE L k
 ·
  cases hd : hasE (delE L n) k
  ·
   rfl
  ·
   obtain ⟨p, hp, e⟩ := hasE_iff.1 hd
   have : hasE L k = true := hasE_iff.2 ⟨p, (mem_del.1 hp).1, e⟩
   rw [hh] at this; cases this
 ·
  obtain ⟨p, hp, e⟩ := hasE_iff.1 hh
  exact hasE_iff.2 ⟨p, mem_del.2 ⟨hp, fun e' => h (e.symm.trans e')⟩, e⟩
theorem put_del {L : Row7} (h : Rise7 L) (n a : List UInt8) : putE (delE L n) n a = putE L n a := by
 refine rise_ext (rise_put (rise_del h n) n a) (rise_put h n a) fun q => ?_
 rw [mem_putE, mem_putE, mem_del]
 constructor
 ·
  rintro (e | ⟨⟨h1, _⟩, h2⟩)
  ·
   exact .inl e
  ·
   exact .inr ⟨h1, h2⟩
 ·
  rintro (e | ⟨h1, h2⟩)
  ·
   exact .inl e
  ·
   exact .inr ⟨⟨h1, h2⟩, h2⟩
theorem get_put {L : Row7} (h : Rise7 L) (n a : List UInt8) : getE (putE L n a) n = a := get_mem (rise_put h n a) (mem_putE.2 (.inl rfl))
end Go.Proofs.YthlgmkfofebbfaaGreatDoor


namespace Go.Proofs.YthlgmkfofebbfaaGreatDoor
open Go.RowKit

def foldC (x : UInt8) : UInt8 := if inR 65 90 x then x + 32 else x
def fold5 (l : List UInt8) : List UInt8 := l.map foldC

theorem foldC_hit {x : UInt8} (h : inR 65 90 x = true) : ((foldC x).toNat : Int) = (x.toNat : Int) - 65 + 97 ∧ 65 ≤ x.toNat ∧ x.toNat ≤ 90 := by
 have h2 : 65 ≤ x.toNat ∧ x.toNat ≤ 90 := by simpa [inR] using h
 refine ⟨?_, h2.1, h2.2⟩
 unfold foldC
 rw [if_pos h, UInt8.toNat_add]
 have : (32 : UInt8).toNat = 32 := rfl
 rw [this]
 omega
theorem foldC_miss {x : UInt8} (h : inR 65 90 x = false) : foldC x = x := by unfold foldC; rw [h]; simp

def Row5 (w : World) (B n : Nat) (f : Nat → UInt8) : Prop :=
 B < w.heap.size ∧ ∀ j, j < n → w.cell? ⟨B, j, none⟩ = some (.int .u8 (f j).toNat) ∧ w.frozen? ⟨B, j, none⟩ = false
theorem Row5.drewN {w : World} {B n : Nat} {f : Nat → UInt8} (h : Row5 w B n f) (q : Nat) : Row5 (w.drewN q) B n f := h
theorem Row5.set {w : World} {B n : Nat} {f : Nat → UInt8} (h : Row5 w B n f) (k : Nat) (hk : k < n) (x : Int) (y : UInt8) (hx : (y.toNat : Int) = x) :
  Row5 (w.setCell ⟨B, k, none⟩ (.int .u8 x)) B n (fun j => if j = k then y else f j) := by
 refine ⟨by have := h.1; simpa [World.setCell] using this, fun j hj => ⟨?_, ?_⟩⟩
 ·
  by_cases e : j = k
  ·
   subst e
   simp only [if_true, hx]
   exact World.cell?_setCell_same _ _ _ (h.2 j hj).1
  ·
   rw [World.cell?_setCell_other _ _ _ _ (fun he => e (by injection he with _ h2 _; exact h2.symm))]
   simp only [if_neg e]
   exact (h.2 j hj).1
 ·
  have := (h.2 j hj).2
  simpa [World.frozen?_setCell] using this

theorem Row5.like {w : World} {B n : Nat} {f g : Nat → UInt8} (h : Row5 w B n f) (e : ∀ j, f j = g j) : Row5 w B n g := (funext e : f = g) ▸ h

theorem row_new (w : World) (s : ByteArray) (cap : Nat) (t : TypeId) :
  Row5 (w.alloc (.cells (bytesRow s cap) t ((bytesRow s cap).size, (bytesRow s cap).size + 1))) w.heap.size s.size (fun j => s.data.toList.getD j 0) := by
 refine ⟨by simp, fun j hj => ⟨?_, ?_⟩⟩
 ·
  rw [World.cell?_alloc_mark]
  have hj' : j < s.data.size := hj
  simp only [bytesRow, Array.getElem?_append, Array.size_map]
  rw [if_pos hj', Array.getElem?_map, Array.getElem?_eq_getElem hj']
  simp only [List.getD, Array.getElem?_toList, Array.getElem?_eq_getElem hj', Option.getD_some, Option.map_some]
 ·
  rw [World.frozen?_alloc_mark]
  have : s.size ≤ (bytesRow s cap).size := by
   have : (bytesRow s cap).size = s.data.size + (cap - s.size) := by simp [bytesRow]
   have e : s.data.size = s.size := rfl
   omega
  simp only [Bool.and_eq_false_iff, decide_eq_false_iff_not]
  left; omega

theorem row_string {w : World} {B n cap : Nat} {f : Nat → UInt8} (h : Row5 w B n f) :
  (convert 166 9 (.slice (some ⟨B, 0, none⟩) n cap)).run Tryz.prog w = .ok (.string ⟨((List.range n).map f).toArray⟩) w := by
 have hr : Rd w (.slice (some ⟨B, 0, none⟩) n cap) ((List.range n).map f) := by
  refine ⟨some ⟨B, 0, none⟩, cap, by simp, fun _ => ⟨_, rfl, h.1, fun j u hu => ?_⟩⟩
  have hadd : (⟨B, 0, none⟩ : Addr).add j = ⟨B, j, none⟩ := by unfold Addr.add; split <;> simp_all
  have hj : j < n := by
   have := (List.getElem?_eq_some_iff.1 hu).1
   simpa [cellsOf_length] using this
  rw [hadd, (h.2 j hj).1]
  simp [cellsOf, hj] at hu
  rw [← hu]
 exact hr.string Tryz.underlying166 Tryz.underlying5 Tryz.underlying9

set_option maxRecDepth 100000 in
theorem fold_calls (s : ByteArray) (w : World) (hs : s.size ≤ 9223372036854775807) :
  Calls Tryz.prog 143 #[.string s] w fun e w' => e = .returned (.string ⟨(fold5 s.data.toList).toArray⟩) ∧ Below w.heap.size w w' := by
 obtain ⟨r, hr⟩ : ∃ r, r = (⟨(fold5 s.data.toList).toArray⟩ : ByteArray) := ⟨_, rfl⟩
 rw [← hr]
 have HR := Lib.hid hr
 clear hr
 have HC := Lib.hid (within_int 65 90 65 90 rfl rfl w)
 have HS := Lib.hid hs
 generalize hn : s.size = n at *
 have HN := Lib.hid hn
 go_enter Tryz.func143, Tryz.ntmps143
 go_wp2_with fail
 with_reducible refine HC.out.mono ?_
 rintro e w1 ⟨g, lb, rfl, ha, hb⟩
 have HB1 := Lib.hid hb
 have HA := Lib.hid ha
 clear ha hb HC
 have hcv := run_bytes_of_string (P := Tryz.prog) w1 9 166 5 s Tryz.underlying9 Tryz.underlying166 Tryz.underlying5
 rw [hn] at hcv
 have hro := row_new w1.drew s (grownCap w1 n 0 5) 5
 rw [hn] at hro
 generalize grownCap w1 n 0 5 = cap at hcv hro
 have hb2 := below_alloc (below_drew (Below.refl w1.heap.size w1)) (.cells (bytesRow s cap) 5 ((bytesRow s cap).size, (bytesRow s cap).size + 1))
 have HZ := Lib.hid (show w1.heap.size < (w1.drew.alloc (.cells (bytesRow s cap) 5 ((bytesRow s cap).size, (bytesRow s cap).size + 1))).heap.size by simp)
 generalize w1.drew.alloc (.cells (bytesRow s cap) 5 ((bytesRow s cap).size, (bytesRow s cap).size + 1)) = w2 at *
 have HRO := Lib.hid hro
 have HB2 := Lib.hid hb2
 clear hro hb2 hn
 generalize hB : w1.heap.size = B at *
 have HBe := Lib.hid hB
 clear hB
 generalize hf0 : (fun j => s.data.toList.getD j 0) = f0 at *
 have HF0 := Lib.hid hf0
 clear hf0
 have HRO' : Hid (Row5 w2 B n f0) := HBe.out ▸ HRO.out
 have HB2' : Hid (Below w1.heap.size w1 w2) := HBe.out ▸ HB2.out
 clear HRO HB2
 go_wp2
 go_loopg [5, 6, 12] n (fun gg _ _ s12 wr => ∃ k : Nat, k ≤ n ∧ n - k ≤ gg ∧ s12 = .int .i64 k ∧ Hid (Row5 wr B n (fun j => if j < k then foldC (f0 j) else f0 j)) ∧ Hid (Below w1.heap.size w1 wr))
 case atStart => exact ⟨0, Nat.zero_le _, by omega, rfl, by simpa using HRO', HB2'⟩
 case round =>
  obtain ⟨k, hk, hg, rfl, HR1, HW⟩ := hrel
  by_cases hlt : k < n
  ·
   have hltz : (k : Int) < (n : Int) := by omega
   have hcell := (HR1.out.2 k hlt).1
   have hfz := (HR1.out.2 k hlt).2
   simp only [Nat.lt_irrefl, if_false] at hcell
   cases hq : inR 65 90 (f0 k) with
   | true =>
    obtain ⟨e1, e2, e3⟩ := foldC_hit hq
    obtain ⟨eg, hc⟩ := (HA.out.later HW.out).at_ (f0 k) _ rfl _ hq
    have HC0 := Lib.hid hc
    have HY : Hid (∀ q, Row5 ((wr.drewN q).setCell ⟨B, k, none⟩ (.int .u8 ((f0 k).toNat - 65 + 97))) B n (fun j => if j < k + 1 then foldC (f0 j) else f0 j)) := fun q => by
     have := (HR1.out.drewN q).set k hlt _ (foldC (f0 k)) e1
     refine this.like fun j => ?_
     by_cases h1 : j = k
     ·
      subst h1; simp
     ·
      by_cases h2 : j < k
      ·
       simp [h1, h2, Nat.lt_succ_of_lt h2]
      ·
       have : ¬ j < k + 1 := by omega
       simp [h1, h2, this]
    have HWB : Hid (∀ q v, Below w1.heap.size w1 ((wr.drewN q).setCell ⟨B, k, none⟩ v)) := fun q v => (below_drewN HW.out q).setCell (p := ⟨B, k, none⟩) (by rw [HBe.out]; exact Nat.le_refl _) v
    clear hc hq e1
    generalize ((f0 k).toNat : Nat) = x at *
    have z1 : IntKind.u8.wrap ((x : Int) - 65) = (x : Int) - 65 := by unfold IntKind.wrap; simp [IntKind.bits, IntKind.signed]; omega
    have z2 : IntKind.u8.wrap ((x : Int) - 65 + 97) = (x : Int) - 65 + 97 := by unfold IntKind.wrap; simp [IntKind.bits, IntKind.signed]; omega
    go_wp2_with (go_at_fn g; refine HC0.out.mono ?_; rintro e w4 ⟨rfl, q, rfl⟩)
    go_roundg (n - (k + 1))
    case measure => omega
    case rel => exact ⟨k + 1, by omega, by omega, by go_num, HY.out q, HWB.out q _⟩
   | false =>
    obtain ⟨eg, hc⟩ := (HA.out.later HW.out).at_ (f0 k) _ rfl _ hq
    have HC0 := Lib.hid hc
    have HY : Hid (Row5 wr B n (fun j => if j < k + 1 then foldC (f0 j) else f0 j)) := by
     refine HR1.out.like fun j => ?_
     by_cases h1 : j = k
     ·
      subst h1; simp [foldC_miss hq]
     ·
      by_cases h2 : j < k
      ·
       simp [h2, Nat.lt_succ_of_lt h2]
      ·
       have : ¬ j < k + 1 := by omega
       simp [h2, this]
    clear hc hq
    generalize ((f0 k).toNat : Nat) = x at *
    go_wp2_with (go_at_fn g; refine HC0.out.mono ?_; rintro e w4 ⟨rfl, q, rfl⟩)
    go_roundg (n - (k + 1))
    case measure => omega
    case rel => exact ⟨k + 1, by omega, by omega, by go_num, HY, below_drewN HW.out q⟩
  ·
   have hltz : ¬ (k : Int) < (n : Int) := by omega
   obtain rfl : k = n := by omega
   have hst := row_string (cap := cap) HR1.out
   have he : (⟨((List.range k).map fun j => if j < k then foldC (f0 j) else f0 j).toArray⟩ : ByteArray) = r := by
    rw [HR.out]
    congr 2
    unfold fold5
    have hl : s.data.toList.length = k := by rw [size_list]; exact HN.out
    apply List.ext_getElem (by simp [hl])
    intro j h1 h2
    have hj : j < k := by simpa using h1
    have hjs : j < s.data.size := by have := HN.out; rw [← this] at hj; exact hj
    simp only [List.getElem_map, List.getElem_range, if_pos hj, ← HF0.out]
    simp only [List.getD, Array.getElem?_toList, Array.getElem?_eq_getElem hjs, Option.getD_some, Array.getElem_toList]
   rw [he] at hst
   clear he
   have HW' := Lib.hid (below_next HB1.out HW.out)
   clear HW
   go_wp2
   go_ret
   exact ⟨rfl, HW'.out⟩
end Go.Proofs.YthlgmkfofebbfaaGreatDoor


namespace Go.Proofs.YthlgmkfofebbfaaGreatDoor

def parts5 (c : UInt8) : List UInt8 → List (List UInt8)
 | [] => [[]]
 | x :: l => if x = c then [] :: parts5 c l else (x :: (parts5 c l).headD []) :: (parts5 c l).tail

theorem parts_ne (c : UInt8) (l : List UInt8) : ∃ p ps, parts5 c l = p :: ps := by
 cases l with
 | nil => exact ⟨_, _, rfl⟩
 | cons x l =>
  unfold parts5
  split
  ·
   exact ⟨_, _, rfl⟩
  ·
   exact ⟨_, _, rfl⟩

theorem parts_step (c : UInt8) : ∀ l : List UInt8, (Lib.indexByte l c = -1 → parts5 c l = [l]) ∧
  (∀ i : Nat, Lib.indexByte l c = i → parts5 c l = l.take i :: parts5 c (l.drop (i + 1)))
 | [] => ⟨fun _ => rfl, fun i h => by simp [Lib.indexByte] at h⟩
 | x :: l => by
  obtain ⟨h1, h2⟩ := parts_step c l
  have hg := Lib.indexByte_ge l c
  unfold Lib.indexByte
  by_cases e : x = c
  ·
   subst e
   refine ⟨fun h => by simp at h, fun i h => ?_⟩
   simp at h
   obtain rfl : i = 0 := by omega
   simp [parts5]
  ·
   have e' : (x == c) = false := by simpa using e
   rw [e']
   by_cases hm : Lib.indexByte l c = -1
   ·
    refine ⟨fun _ => ?_, fun i h => by simp [hm] at h⟩
    simp [parts5, e, h1 hm]
   ·
    have hm' : (Lib.indexByte l c == -1) = false := by simpa using hm
    rw [hm']
    refine ⟨fun h => by simp at h; omega, fun i h => ?_⟩
    simp at h
    obtain ⟨j, hj⟩ := Int.eq_ofNat_of_zero_le (show 0 ≤ Lib.indexByte l c by omega)
    obtain rfl : i = j + 1 := by omega
    simp [parts5, e, h2 j hj]

theorem split_parts (c : UInt8) : ∀ (n : Nat) (l : List UInt8), l.length ≤ n → Lib.splitK [c] 0 (Lib.count l [c]) l = parts5 c l
 | n, l, hn => by
  obtain ⟨h1, h2⟩ := parts_step c l
  have hi := Lib.index_one l c
  by_cases hm : Lib.indexByte l c = -1
  ·
   rw [Lib.count_miss (hi.trans hm), h1 hm]; rfl
  ·
   have hg := Lib.indexByte_ge l c
   obtain ⟨i, hj⟩ := Int.eq_ofNat_of_zero_le (show 0 ≤ Lib.indexByte l c by omega)
   have hr := Lib.index_room l [c] (by rw [hi, hj]; omega)
   rw [hi, hj] at hr
   simp at hr
   cases n with
   | zero => omega
   | succ n =>
    have hc : Lib.count l [c] = 1 + Lib.count (l.drop (i + 1)) [c] := by
     have := Lib.count_hit (s := l) (sub := [c]) (i := i) (by simp) (hi.trans hj)
     simpa using this
    rw [hc, Nat.add_comm, h2 i hj, ← split_parts c n (l.drop (i + 1)) (by simp; omega)]
    have hne : (Lib.index l [c] == -1) = false := by rw [hi, hj]; simp
    rw [Lib.splitK, hne]
    simp [hi, hj]

def labP5 (p : UInt8 → Bool) (l : List UInt8) : Bool := decide (1 ≤ l.length) && l.all p
def dom5 (p : UInt8 → Bool) (l : List UInt8) : Bool := (parts5 46 l).all (labP5 p) && decide (2 ≤ (parts5 46 l).length)
def scan5 (p : UInt8 → Bool) : List UInt8 → Nat → Nat → Bool
 | [], st, lg => decide (1 ≤ st) && decide (1 ≤ lg)
 | x :: l, st, lg => if x = 46 then (if lg = 0 then false else scan5 p l (st + 1) 0) else if p x then scan5 p l st (lg + 1) else false

theorem scan5_parts (p : UInt8 → Bool) : ∀ (l : List UInt8) (st lg : Nat) (q : List UInt8) (qs : List (List UInt8)), parts5 46 l = q :: qs →
  scan5 p l st lg = (q.all p && decide (1 ≤ lg + q.length) && qs.all (labP5 p) && decide (1 ≤ st + qs.length))
 | [], st, lg, q, qs, h => by
  simp [parts5] at h
  obtain ⟨rfl, rfl⟩ := h
  simp [scan5, Bool.and_comm]
 | x :: l, st, lg, q, qs, h => by
  obtain ⟨q', qs', h'⟩ := parts_ne 46 l
  rw [parts5, h'] at h
  unfold scan5
  by_cases e : x = 46
  ·
   rw [if_pos e] at h ⊢
   simp at h
   obtain ⟨rfl, rfl⟩ := h
   by_cases hl : lg = 0
   ·
    subst hl; simp
   ·
    rw [if_neg hl, scan5_parts p l (st + 1) 0 q' qs' h']
    have z1 : decide (1 ≤ lg + ([] : List UInt8).length) = true := by simp; omega
    have z2 : decide (1 ≤ st + 1 + qs'.length) = true := by simp; omega
    have z3 : decide (1 ≤ st + (q' :: qs').length) = true := by simp; omega
    rw [z1, z2, z3]
    simp [labP5, Bool.and_comm]
  ·
   rw [if_neg e] at h ⊢
   simp at h
   obtain ⟨rfl, rfl⟩ := h
   cases hp : p x with
   | false => simp [hp]
   | true =>
    rw [if_pos rfl, scan5_parts p l st (lg + 1) q' qs' h']
    have z1 : decide (1 ≤ lg + (x :: q').length) = true := by simp; omega
    have z2 : decide (1 ≤ lg + 1 + q'.length) = true := by simp; omega
    rw [z1, z2]
    simp [hp]

theorem scan5_dom (p : UInt8 → Bool) (l : List UInt8) : scan5 p l 0 0 = dom5 p l := by
 obtain ⟨q, qs, h⟩ := parts_ne 46 l
 rw [scan5_parts p l 0 0 q qs h, dom5, h]
 have : decide (1 ≤ 0 + qs.length) = decide (2 ≤ (q :: qs).length) := by simp
 rw [this]
 simp [labP5, Bool.and_comm, Bool.and_assoc, Bool.and_left_comm]

end Go.Proofs.YthlgmkfofebbfaaGreatDoor


namespace Go.Proofs
open Go.Shelf
def Tryz.lays106_ren : Go.Shelf.Ren := ⟨fun | 106 => 151 | 213 => 172 | 265 => 194 | n => n, fun | 9 => 9 | 3 => 3 | n => n, fun | n => n⟩
theorem Tryz.lays106 : Go.Proofs.Lays.n106 Tryz.prog Tryz.lays106_ren := {
 mixed := by kernel_rfl
 f106 := Tryz.func151.trans (congrArg some (by kernel_rfl))
 f213 := Tryz.func172.trans (congrArg some (by kernel_rfl))
 f265 := Tryz.func194.trans (congrArg some (by kernel_rfl))
 t3 := Tryz.underlying3
 a3 := Tryz.isAgg3
 z3 := Tryz.sizeOf3
 v3 := Tryz.zeroValue3
 t9 := Tryz.underlying9
 a9 := Tryz.isAgg9
 z9 := Tryz.sizeOf9
 v9 := Tryz.zeroValue9 }
open Go.RowKit in
theorem Tryz.strings_Compare (a b : ByteArray) (w : World) :
  Calls Tryz.prog 151 #[.string a, .string b] w fun e w' => e = .returned (.int .i64 (Lib.compareBytes a.data.toList b.data.toList)) ∧ w' = w := Any.strings_Compare Tryz.lays106 a b w
def Tryz.laysM316_ren : Go.Shelf.Ren := ⟨fun | 316 => 133 | n => n, fun | 9 => 9 | 3 => 3 | 4 => 4 | 37 => 166 | 0 => 0 | 127 => 167 | 5 => 5 | n => n, fun | n => n⟩
theorem Tryz.laysM316 : Go.Proofs.LaysM.n316 Tryz.prog Tryz.laysM316_ren := {
 mixed := by kernel_rfl
 f316 := Tryz.func133.trans (congrArg some (by kernel_rfl))
 t0 := Tryz.underlying0
 a0 := Tryz.isAgg0
 z0 := Tryz.sizeOf0
 v0 := Tryz.zeroValue0
 t3 := Tryz.underlying3
 a3 := Tryz.isAgg3
 z3 := Tryz.sizeOf3
 v3 := Tryz.zeroValue3
 t4 := Tryz.underlying4
 a4 := Tryz.isAgg4
 z4 := Tryz.sizeOf4
 v4 := Tryz.zeroValue4
 t9 := Tryz.underlying9
 a9 := Tryz.isAgg9
 z9 := Tryz.sizeOf9
 v9 := Tryz.zeroValue9
 t37 := Tryz.underlying166
 a37 := Tryz.isAgg166
 z37 := Tryz.sizeOf166
 v37 := Tryz.zeroValue166
 t127 := Tryz.underlying167
 a127 := Tryz.isAgg167
 z127 := Tryz.sizeOf167
 v127 := Tryz.zeroValue167
 t5 := Tryz.underlying5
 a5 := Tryz.isAgg5
 z5 := Tryz.sizeOf5
 v5 := Tryz.zeroValue5
 i0 := by kernel_rfl
 i3 := by kernel_rfl
 i4 := by kernel_rfl
 i5 := by kernel_rfl
 i9 := by kernel_rfl
 i37 := by kernel_rfl
 i127 := by kernel_rfl }
open Go.RowKit in
theorem Tryz.stringslite_Clone (s : ByteArray) (w : World) (hlim : s.size ≤ 281474976710656) :
  Calls Tryz.prog 133 #[.string s] w fun e w' => e = .returned (.string s) ∧ Below w.heap.size w w' := Any.stringslite_Clone Tryz.laysM316 s w hlim
def Tryz.lays145_ren : Go.Shelf.Ren := ⟨fun | 145 => 144 | 220 => 167 | 219 => 182 | 217 => 198 | 225 => 199 | 224 => 200 | 267 => 201 | 266 => 210 | 314 => 211 | n => n, fun | 9 => 9 | 4 => 4 | 59 => 155 | 3 => 3 | 5 => 5 | 46 => 174 | 146 => 206 | 51 => 192 | n => n, fun | 1 => 0 | n => n⟩
theorem Tryz.lays145 : Go.Proofs.Lays.n145 Tryz.prog Tryz.lays145_ren := {
 mixed := by kernel_rfl
 f145 := Tryz.func144.trans (congrArg some (by kernel_rfl))
 f217 := Tryz.func198.trans (congrArg some (by kernel_rfl))
 f219 := Tryz.func182.trans (congrArg some (by kernel_rfl))
 f220 := Tryz.func167.trans (congrArg some (by kernel_rfl))
 f224 := Tryz.func200.trans (congrArg some (by kernel_rfl))
 f225 := Tryz.func199.trans (congrArg some (by kernel_rfl))
 f266 := Tryz.func210.trans (congrArg some (by kernel_rfl))
 f267 := Tryz.func201.trans (congrArg some (by kernel_rfl))
 f314 := Tryz.func211.trans (congrArg some (by kernel_rfl))
 t3 := Tryz.underlying3
 a3 := Tryz.isAgg3
 z3 := Tryz.sizeOf3
 v3 := Tryz.zeroValue3
 t4 := Tryz.underlying4
 a4 := Tryz.isAgg4
 z4 := Tryz.sizeOf4
 v4 := Tryz.zeroValue4
 t5 := Tryz.underlying5
 a5 := Tryz.isAgg5
 z5 := Tryz.sizeOf5
 v5 := Tryz.zeroValue5
 t9 := Tryz.underlying9
 a9 := Tryz.isAgg9
 z9 := Tryz.sizeOf9
 v9 := Tryz.zeroValue9
 t46 := Tryz.underlying174
 a46 := Tryz.isAgg174
 z46 := Tryz.sizeOf174
 v46 := Tryz.zeroValue174
 t51 := Tryz.underlying192
 a51 := Tryz.isAgg192
 z51 := Tryz.sizeOf192
 v51 := Tryz.zeroValue192
 t59 := Tryz.underlying155
 a59 := Tryz.isAgg155
 z59 := Tryz.sizeOf155
 v59 := Tryz.zeroValue155
 t146 := Tryz.underlying206
 a146 := Tryz.isAgg206
 z146 := Tryz.sizeOf206
 v146 := Tryz.zeroValue206
 g1 := by kernel_rfl }
open Go.RowKit Go.Lib in
theorem Tryz.strings_Cut (s sep : ByteArray) (m : Int) (w : World) (hs : s.size < 4294967281) (hm : w.cell? ⟨0, 0, none⟩ = some (.int .i64 m)) :
  Calls Tryz.prog 144 #[.string s, .string sep] w fun e w' => e = .returned (.tuple #[.string ⟨(Lib.cut s.data.toList sep.data.toList).1.toArray⟩, .string ⟨(Lib.cut s.data.toList sep.data.toList).2.1.toArray⟩, .bool (Lib.cut s.data.toList sep.data.toList).2.2]) ∧ ∃ n, w' = w.drewN n := Any.strings_Cut Tryz.lays145 s sep m w hs hm
def Tryz.lays99_ren : Go.Shelf.Ren := ⟨fun | 99 => 61 | 206 => 117 | n => n, fun | 9 => 9 | 4 => 4 | 3 => 3 | n => n, fun | n => n⟩
theorem Tryz.lays99 : Go.Proofs.Lays.n99 Tryz.prog Tryz.lays99_ren := {
 mixed := by kernel_rfl
 f99 := Tryz.func61.trans (congrArg some (by kernel_rfl))
 f206 := Tryz.func117.trans (congrArg some (by kernel_rfl))
 t3 := Tryz.underlying3
 a3 := Tryz.isAgg3
 z3 := Tryz.sizeOf3
 v3 := Tryz.zeroValue3
 t4 := Tryz.underlying4
 a4 := Tryz.isAgg4
 z4 := Tryz.sizeOf4
 v4 := Tryz.zeroValue4
 t9 := Tryz.underlying9
 a9 := Tryz.isAgg9
 z9 := Tryz.sizeOf9
 v9 := Tryz.zeroValue9 }
open Go.RowKit Go.Lib in
theorem Tryz.strings_HasPrefix (s p : ByteArray) (w : World) :
  Calls Tryz.prog 61 #[.string s, .string p] w fun e w' => e = .returned (.bool (Lib.hasPrefix s.data.toList p.data.toList)) ∧ w' = w := Any.strings_HasPrefix Tryz.lays99 s p w
def Tryz.lays146_ren : Go.Shelf.Ren := ⟨fun | 146 => 168 | 221 => 183 | 268 => 202 | 138 => 203 | 143 => 204 | 195 => 212 | 197 => 213 | 218 => 214 | 219 => 182 | 260 => 216 | 217 => 198 | 225 => 199 | 224 => 200 | 267 => 201 | 266 => 210 | 314 => 211 | n => n, fun | 9 => 9 | 31 => 28 | 3 => 3 | 4 => 4 | 0 => 0 | 105 => 208 | 21 => 21 | 5 => 5 | 46 => 174 | 119 => 213 | 139 => 216 | 138 => 215 | 146 => 206 | 51 => 192 | n => n, fun | 1 => 0 | 3 => 1 | 4 => 2 | n => n⟩
theorem Tryz.lays146 : Go.Proofs.Lays.n146 Tryz.prog Tryz.lays146_ren := {
 mixed := by kernel_rfl
 f138 := Tryz.func203.trans (congrArg some (by kernel_rfl))
 f143 := Tryz.func204.trans (congrArg some (by kernel_rfl))
 f146 := Tryz.func168.trans (congrArg some (by kernel_rfl))
 f195 := Tryz.func212.trans (congrArg some (by kernel_rfl))
 f197 := Tryz.func213.trans (congrArg some (by kernel_rfl))
 f217 := Tryz.func198.trans (congrArg some (by kernel_rfl))
 f218 := Tryz.func214.trans (congrArg some (by kernel_rfl))
 f219 := Tryz.func182.trans (congrArg some (by kernel_rfl))
 f221 := Tryz.func183.trans (congrArg some (by kernel_rfl))
 f224 := Tryz.func200.trans (congrArg some (by kernel_rfl))
 f225 := Tryz.func199.trans (congrArg some (by kernel_rfl))
 f260 := Tryz.func216.trans (congrArg some (by kernel_rfl))
 f266 := Tryz.func210.trans (congrArg some (by kernel_rfl))
 f267 := Tryz.func201.trans (congrArg some (by kernel_rfl))
 f268 := Tryz.func202.trans (congrArg some (by kernel_rfl))
 f314 := Tryz.func211.trans (congrArg some (by kernel_rfl))
 t0 := Tryz.underlying0
 a0 := Tryz.isAgg0
 z0 := Tryz.sizeOf0
 v0 := Tryz.zeroValue0
 t3 := Tryz.underlying3
 a3 := Tryz.isAgg3
 z3 := Tryz.sizeOf3
 v3 := Tryz.zeroValue3
 t4 := Tryz.underlying4
 a4 := Tryz.isAgg4
 z4 := Tryz.sizeOf4
 v4 := Tryz.zeroValue4
 t5 := Tryz.underlying5
 a5 := Tryz.isAgg5
 z5 := Tryz.sizeOf5
 v5 := Tryz.zeroValue5
 t9 := Tryz.underlying9
 a9 := Tryz.isAgg9
 z9 := Tryz.sizeOf9
 v9 := Tryz.zeroValue9
 t21 := Tryz.underlying21
 a21 := Tryz.isAgg21
 z21 := Tryz.sizeOf21
 v21 := Tryz.zeroValue21
 t31 := Tryz.underlying28
 a31 := Tryz.isAgg28
 z31 := Tryz.sizeOf28
 v31 := Tryz.zeroValue28
 t46 := Tryz.underlying174
 a46 := Tryz.isAgg174
 z46 := Tryz.sizeOf174
 v46 := Tryz.zeroValue174
 t51 := Tryz.underlying192
 a51 := Tryz.isAgg192
 z51 := Tryz.sizeOf192
 v51 := Tryz.zeroValue192
 t105 := Tryz.underlying208
 a105 := Tryz.isAgg208
 z105 := Tryz.sizeOf208
 v105 := Tryz.zeroValue208
 t119 := Tryz.underlying213
 a119 := Tryz.isAgg213
 z119 := Tryz.sizeOf213
 t138 := Tryz.underlying215
 a138 := Tryz.isAgg215
 z138 := Tryz.sizeOf215
 v138 := Tryz.zeroValue215
 t139 := Tryz.underlying216
 a139 := Tryz.isAgg216
 z139 := Tryz.sizeOf216
 v139 := Tryz.zeroValue216
 t146 := Tryz.underlying206
 a146 := Tryz.isAgg206
 z146 := Tryz.sizeOf206
 v146 := Tryz.zeroValue206
 g1 := by kernel_rfl
 g3 := by kernel_rfl
 g4 := by kernel_rfl }
open Go.RowKit Go.Lib in
theorem Tryz.strings_Split (s sep : ByteArray) (m : Int) (w : World) (hs : s.size < 4294967281) (hm : w.cell? ⟨0, 0, none⟩ = some (.int .i64 m)) (h1 : 1 ≤ sep.size) :
  Calls Tryz.prog 168 #[.string s, .string sep] w fun e w' =>
   e = .returned (.slice (some ⟨w.heap.size, 0, none⟩) (Lib.countB s sep + 1) (Lib.countB s sep + 1)) ∧ w' = w.alloc (.cells ((Lib.splitB sep 0 (Lib.countB s sep) s).map Value.string).toArray 9) := Any.strings_Split Tryz.lays146 (by kernel_rfl) s sep m w hs hm h1
open Go.RowKit Go.Lib in
open Go.RowKit Go.Lib in
open Go.RowKit Go.Lib in
def Tryz.laysSlH6_f118_ren : Go.Shelf.Ren := ⟨fun | 6 => 118 | n => n, fun | 22 => 28 | 23 => 9 | 25 => 84 | 3 => 3 | 0 => 0 | 4 => 4 | n => n, fun | n => n⟩
theorem Tryz.laysSlH6_f118 : Go.Proofs.SlLaysH.n6 Tryz.prog Tryz.laysSlH6_f118_ren := {
 mixed := by kernel_rfl
 f6 := ⟨Tryz.f118.name, by decide, Tryz.func118.trans (congrArg some (by kernel_rfl))⟩
 t0 := Tryz.underlying0
 a0 := Tryz.isAgg0
 z0 := Tryz.sizeOf0
 v0 := Tryz.zeroValue0
 t3 := Tryz.underlying3
 a3 := Tryz.isAgg3
 z3 := Tryz.sizeOf3
 v3 := Tryz.zeroValue3
 t4 := Tryz.underlying4
 a4 := Tryz.isAgg4
 z4 := Tryz.sizeOf4
 v4 := Tryz.zeroValue4
 t22 := Tryz.underlying28
 a22 := Tryz.isAgg28
 z22 := Tryz.sizeOf28
 v22 := Tryz.zeroValue28
 a23 := Tryz.isAgg9
 z23 := Tryz.sizeOf9
 t25 := Tryz.underlying84
 a25 := Tryz.isAgg84
 z25 := Tryz.sizeOf84
 v25 := Tryz.zeroValue84 }
open Go.RowKit Go.Lib in
theorem Tryz.slices_IndexFunc_empty_f118 {α : Type} [Inhabited α] (a : Option Addr) (c : Nat) (fv : Value) (w : World) :
  Calls Tryz.prog 118 #[.slice a 0 c, fv] w fun e w' => e = .returned (.int .i64 (-1)) ∧ w' = w := AnyE.slices_IndexFunc_empty Tryz.laysSlH6_f118 a c fv w
def Tryz.laysSlH10_f62_ren : Go.Shelf.Ren := ⟨fun | 10 => 62 | 6 => 118 | n => n, fun | 22 => 28 | 23 => 9 | 25 => 84 | 3 => 3 | 4 => 4 | 0 => 0 | n => n, fun | n => n⟩
theorem Tryz.laysSlH10_f62 : Go.Proofs.SlLaysH.n10 Tryz.prog Tryz.laysSlH10_f62_ren := {
 mixed := by kernel_rfl
 f6 := ⟨Tryz.f118.name, by decide, Tryz.func118.trans (congrArg some (by kernel_rfl))⟩
 f10 := ⟨Tryz.f62.name, by decide, Tryz.func62.trans (congrArg some (by kernel_rfl))⟩
 t0 := Tryz.underlying0
 a0 := Tryz.isAgg0
 z0 := Tryz.sizeOf0
 v0 := Tryz.zeroValue0
 t3 := Tryz.underlying3
 a3 := Tryz.isAgg3
 z3 := Tryz.sizeOf3
 v3 := Tryz.zeroValue3
 t4 := Tryz.underlying4
 a4 := Tryz.isAgg4
 z4 := Tryz.sizeOf4
 v4 := Tryz.zeroValue4
 t22 := Tryz.underlying28
 a22 := Tryz.isAgg28
 z22 := Tryz.sizeOf28
 v22 := Tryz.zeroValue28
 a23 := Tryz.isAgg9
 z23 := Tryz.sizeOf9
 t25 := Tryz.underlying84
 a25 := Tryz.isAgg84
 z25 := Tryz.sizeOf84
 v25 := Tryz.zeroValue84 }
open Go.RowKit Go.Lib Go.Sort in
theorem Tryz.slices_DeleteFunc {α : Type} [Inhabited α] (enc : α → Value) (hO : OneCell enc) (p : α → Bool) (g : Nat) (lb : Array Value) (eg : ∀ args w, (callFunc g args).run Tryz.prog w = .ok (.enter g args) w) (zr : α) (v23 : ∀ w, (zeroValue 9).run Tryz.prog w = .ok (enc zr) w) (blk off cap : Nat) (d : Array α) (w : World) (hp : PredAt Tryz.prog g lb enc p w) (hpo : PredOver Tryz.prog g lb enc p blk off d.size w) (hH : Holds enc w blk off d) (hsz : d.size ≤ 9223372036854775807) (hcap : d.size ≤ cap) :
  Calls Tryz.prog 62 #[.slice (some ⟨blk, off, none⟩) d.size cap, .func (.func g) #[] lb] w fun e w' => e = .returned (.slice (some ⟨blk, off, none⟩) (d.toList.filter fun x => !p x).length cap) ∧ ∃ q, w' = putRow enc (Sort.ahead w q) blk off ((d.toList.filter fun x => !p x) ++ List.replicate (d.size - (d.toList.filter fun x => !p x).length) zr).toArray := AnyE.slices_DeleteFunc Tryz.laysSlH10_f62 enc hO p g lb eg zr v23 blk off cap d w hp hpo hH hsz hcap
def Tryz.keys11_ren : Go.Shelf.Ren := ⟨fun | 7 => 120 | 10 => 150 | n => n, fun | 23 => 64 | 26 => 9 | 3 => 97 | 28 => 128 | 0 => 0 | 27 => 127 | 33 => 84 | 4 => 4 | n => n, fun | n => n⟩
theorem Tryz.keys11 : Go.Proofs.SlLaysZ.n7 Tryz.prog Tryz.keys11_ren := {
 mixed := by kernel_rfl
 f7 := ⟨Tryz.f120.name, by decide, Tryz.func120.trans (congrArg some (by kernel_rfl))⟩
 f10 := ⟨Tryz.f150.name, by decide, Tryz.func150.trans (congrArg some (by kernel_rfl))⟩
 t0 := Tryz.underlying0
 a0 := Tryz.isAgg0
 z0 := Tryz.sizeOf0
 v0 := Tryz.zeroValue0
 t4 := Tryz.underlying4
 a4 := Tryz.isAgg4
 z4 := Tryz.sizeOf4
 v4 := Tryz.zeroValue4
 t23 := Tryz.underlying64
 a23 := Tryz.isAgg64
 z23 := Tryz.sizeOf64
 v23 := Tryz.zeroValue64
 t26 := Tryz.underlying9
 a26 := Tryz.isAgg9
 z26 := Tryz.sizeOf9
 v26 := Tryz.zeroValue9
 t27 := Tryz.underlying127
 a27 := Tryz.isAgg127
 z27 := Tryz.sizeOf127
 v27 := Tryz.zeroValue127
 t28 := Tryz.underlying128
 a28 := Tryz.isAgg128
 z28 := Tryz.sizeOf128
 v28 := Tryz.zeroValue128
 t33 := Tryz.underlying84
 a33 := Tryz.isAgg84
 z33 := Tryz.sizeOf84
 v33 := Tryz.zeroValue84 }
def Tryz.collect7_ren : Go.Shelf.Ren := ⟨fun | 8 => 148 | 11 => 169 | n => n, fun | 26 => 9 | 28 => 128 | 24 => 28 | 0 => 0 | 33 => 84 | 4 => 4 | n => n, fun | n => n⟩
theorem Tryz.collect7 : Go.Proofs.SlLaysZ.n8 Tryz.prog Tryz.collect7_ren := {
 mixed := by kernel_rfl
 f8 := ⟨Tryz.f148.name, by decide, Tryz.func148.trans (congrArg some (by kernel_rfl))⟩
 f11 := ⟨Tryz.f169.name, by decide, Tryz.func169.trans (congrArg some (by kernel_rfl))⟩
 t0 := Tryz.underlying0
 a0 := Tryz.isAgg0
 z0 := Tryz.sizeOf0
 v0 := Tryz.zeroValue0
 t24 := Tryz.underlying28
 a24 := Tryz.isAgg28
 z24 := Tryz.sizeOf28
 v24 := Tryz.zeroValue28
 t26 := Tryz.underlying9
 a26 := Tryz.isAgg9
 z26 := Tryz.sizeOf9
 v26 := Tryz.zeroValue9
 t28 := Tryz.underlying128
 a28 := Tryz.isAgg128
 z28 := Tryz.sizeOf128
 v28 := Tryz.zeroValue128
 i26 := by kernel_rfl }
def Tryz.clone7_ren : Go.Shelf.Ren := ⟨fun | 5 => 137 | 7 => 136 | n => n, fun | 23 => 99 | 25 => 9 | 3 => 9 | 4 => 4 | 20 => 20 | n => n, fun | n => n⟩
theorem Tryz.clone7 : Go.Proofs.SlLaysW.n5 Tryz.prog Tryz.clone7_ren := {
 mixed := by kernel_rfl
 f5 := ⟨Tryz.f137.name, by decide, Tryz.func137.trans (congrArg some (by kernel_rfl))⟩
 f7 := Tryz.func136.trans (congrArg some (by kernel_rfl))
 t4 := Tryz.underlying4
 a4 := Tryz.isAgg4
 z4 := Tryz.sizeOf4
 v4 := Tryz.zeroValue4
 t20 := Tryz.underlying20
 a20 := Tryz.isAgg20
 z20 := Tryz.sizeOf20
 v20 := Tryz.zeroValue20
 t23 := Tryz.underlying99
 a23 := Tryz.isAgg99
 z23 := Tryz.sizeOf99
 v23 := Tryz.zeroValue99 }
def Tryz.clone10_ren : Go.Shelf.Ren := ⟨fun | 5 => 138 | 7 => 136 | n => n, fun | 23 => 132 | 25 => 9 | 3 => 4 | 4 => 4 | 20 => 20 | n => n, fun | n => n⟩
theorem Tryz.clone10 : Go.Proofs.SlLaysW.n5 Tryz.prog Tryz.clone10_ren := {
 mixed := by kernel_rfl
 f5 := ⟨Tryz.f138.name, by decide, Tryz.func138.trans (congrArg some (by kernel_rfl))⟩
 f7 := Tryz.func136.trans (congrArg some (by kernel_rfl))
 t4 := Tryz.underlying4
 a4 := Tryz.isAgg4
 z4 := Tryz.sizeOf4
 v4 := Tryz.zeroValue4
 t20 := Tryz.underlying20
 a20 := Tryz.isAgg20
 z20 := Tryz.sizeOf20
 v20 := Tryz.zeroValue20
 t23 := Tryz.underlying132
 a23 := Tryz.isAgg132
 z23 := Tryz.sizeOf132
 v23 := Tryz.zeroValue132 }
def Tryz.clone11_ren : Go.Shelf.Ren := ⟨fun | 5 => 103 | 7 => 136 | n => n, fun | 23 => 64 | 25 => 9 | 3 => 97 | 4 => 4 | 20 => 20 | n => n, fun | n => n⟩
theorem Tryz.clone11 : Go.Proofs.SlLaysW.n5 Tryz.prog Tryz.clone11_ren := {
 mixed := by kernel_rfl
 f5 := ⟨Tryz.f103.name, by decide, Tryz.func103.trans (congrArg some (by kernel_rfl))⟩
 f7 := Tryz.func136.trans (congrArg some (by kernel_rfl))
 t4 := Tryz.underlying4
 a4 := Tryz.isAgg4
 z4 := Tryz.sizeOf4
 v4 := Tryz.zeroValue4
 t20 := Tryz.underlying20
 a20 := Tryz.isAgg20
 z20 := Tryz.sizeOf20
 v20 := Tryz.zeroValue20
 t23 := Tryz.underlying64
 a23 := Tryz.isAgg64
 z23 := Tryz.sizeOf64
 v23 := Tryz.zeroValue64 }
end Go.Proofs


namespace Go.Proofs.YthlgmkfofebbfaaGreatDoor
open Go.RowKit

def Len5 (w : World) : Prop := 0 < w.heap.size ∧ ∃ m, w.cell? ⟨0, 0, none⟩ = some (.int .i64 m)
theorem Len5.later {w W : World} (h : Len5 w) (hb : Below w.heap.size w W) : Len5 W :=
 ⟨Nat.lt_of_lt_of_le h.1 hb.size, by obtain ⟨m, hm⟩ := h.2; exact ⟨m, (hb.cell (p := ⟨0, 0, none⟩) h.1).trans hm⟩⟩

def lab5 (l : List UInt8) : Bool := labP5 both5 l

theorem dom_pieces (s : ByteArray) : dom5 both5 s.data.toList =
  ((Lib.splitB ⟨#[46]⟩ 0 (Lib.countB s ⟨#[46]⟩) s).all (fun x => lab5 x.data.toList) && decide (2 ≤ Lib.countB s ⟨#[46]⟩ + 1)) := by
 have h1 := Lib.splitB_data ⟨#[46]⟩ 0 (Lib.countB s ⟨#[46]⟩) s
 have h2 : Lib.splitK [46] 0 (Lib.count s.data.toList [46]) s.data.toList = parts5 46 s.data.toList := split_parts 46 _ _ (Nat.le_refl _)
 have h3 : (Lib.splitB ⟨#[46]⟩ 0 (Lib.countB s ⟨#[46]⟩) s).map (·.data.toList) = parts5 46 s.data.toList := h1.trans h2
 have h4 := Lib.splitB_all ⟨#[46]⟩ (by decide) 0 (Lib.countB s ⟨#[46]⟩) s rfl
 unfold dom5
 rw [← h3, ← h4]
 simp [List.all_map, Function.comp_def, lab5]

theorem piece_size (sep : ByteArray) : ∀ (k : Nat) (s : ByteArray) (x : ByteArray), x ∈ Lib.splitB sep 0 k s → x.size ≤ s.size
 | 0, s, x, h => by simp [Lib.splitB] at h; subst h; exact Nat.le_refl _
 | k + 1, s, x, h => by
  unfold Lib.splitB at h
  split at h
  ·
   simp at h; subst h; exact Nat.le_refl _
  ·
   rcases List.mem_cons.1 h with rfl | h
   ·
    simp; exact Nat.min_le_right _ _
   ·
    have := piece_size sep k _ x h
    have e : (s.extract ((Lib.indexB s sep).toNat + sep.size) s.size).size ≤ s.size := by simp
    omega

theorem piece_cell (w : World) (l : List ByteArray) (t : TypeId) (j : Nat) (hj : j < l.length) :
  (w.alloc (.cells (l.map Value.string).toArray t)).cell? ⟨w.heap.size, j, none⟩ = some (.string l[j]) := by
 rw [World.cell?_alloc_at _ _ _ _ rfl]
 simp [hj]

set_option maxRecDepth 100000 in
theorem domain_calls (s : ByteArray) (w : World) (hs : s.size ≤ 1000) (hm : Len5 w) :
  Calls Tryz.prog 145 #[.string s] w (Tells5 (dom5 both5 s.data.toList) w) := by
 rw [dom_pieces]
 have hle := Lib.countB_le ⟨#[46]⟩ (by decide) s.size s (Nat.le_refl _)
 have hlen := Lib.splitB_all ⟨#[46]⟩ (by decide) 0 (Lib.countB s ⟨#[46]⟩) s rfl
 obtain ⟨h0, m, hm⟩ := hm
 have HC := Lib.hid (Tryz.strings_Split s ⟨#[46]⟩ m w (by omega) hm (by decide))
 have HPS : Hid (∀ x ∈ Lib.splitB ⟨#[46]⟩ 0 (Lib.countB s ⟨#[46]⟩) s, x.size ≤ 1000) := fun x hx => Nat.le_trans (piece_size _ _ _ x hx) hs
 generalize Lib.splitB ⟨#[46]⟩ 0 (Lib.countB s ⟨#[46]⟩) s = ps at *
 generalize hcn : Lib.countB s ⟨#[46]⟩ + 1 = n at *
 have hn : n ≤ 1001 := by omega
 have hpc := piece_cell w ps 9
 have hb1 := below_alloc (Below.refl w.heap.size w) (.cells (ps.map Value.string).toArray 9)
 have hB : w.heap.size < (w.alloc (.cells (ps.map Value.string).toArray 9)).heap.size := by simp
 generalize w.alloc (.cells (ps.map Value.string).toArray 9) = w1 at *
 generalize hBB : w.heap.size = B at HC hpc hB
 have HPC := Lib.hid hpc
 have HB1 := Lib.hid hb1
 have HB := Lib.hid hB
 have HL := Lib.hid hlen
 obtain ⟨r, hr⟩ : ∃ r, r = (ps.all (fun x => lab5 x.data.toList) && decide (2 ≤ n)) := ⟨_, rfl⟩
 rw [← hr]
 have HR := Lib.hid hr
 clear hpc hb1 hB hlen hcn hm h0 hle hBB hr
 go_enter Tryz.func145, Tryz.ntmps145
 go_wp2_with fail
 with_reducible refine HC.out.mono ?_
 rintro e w1' ⟨rfl, rfl⟩
 clear HC
 go_wp2
 go_loopg [5, 10] n (fun gg _ s10 wr => ∃ k : Nat, k ≤ n ∧ n - k ≤ gg ∧ s10 = .int .i64 k ∧ Hid (Below w1'.heap.size w1' wr) ∧ Hid (∀ j (h : j < ps.length), j < k → lab5 ps[j].data.toList = true))
 case atStart => exact ⟨0, Nat.zero_le _, by omega, rfl, Below.refl _ _, fun j _ hj => absurd hj (Nat.not_lt_zero _)⟩
 case round =>
  obtain ⟨k, hk, hg, rfl, HW, A⟩ := hrel
  by_cases hlt : k < n
  ·
   have hltz : (k : Int) < (n : Int) := by omega
   have hkl : k < ps.length := by rw [HL.out]; exact hlt
   have hcell := (HW.out.cell (p := ⟨B, k, none⟩) HB.out).trans (HPC.out k hkl)
   have hsz := HPS.out ps[k] (List.getElem_mem hkl)
   have HLB : Hid (lab5 ps[k].data.toList = (decide (1 ≤ ps[k].size) && ps[k].data.toList.all both5)) := by
    show labP5 both5 _ = _
    unfold labP5
    rw [size_list]
   have HM := Lib.hid (List.getElem_mem hkl)
   have HA2 : Hid (lab5 ps[k].data.toList = true → ∀ j (h : j < ps.length), j < k + 1 → lab5 ps[j].data.toList = true) := fun hl j h hj => by
    by_cases e : j = k
    ·
     subst e; exact hl
    ·
     exact A.out j h (by omega)
   generalize ps[k] = x at *
   have HF : Hid (lab5 x.data.toList = false → r = false) := fun hf => by
    rw [HR.out]
    have : ps.all (fun x => lab5 x.data.toList) = false := List.all_eq_false.2 ⟨x, HM.out, by rw [hf]; simp⟩
    rw [this]; rfl
   have HBW := Lib.hid (below_next HB1.out HW.out)
   by_cases h0 : x.size = 0
   ·
    have hne : x.toList = [] := by
     have : x.toList.length = 0 := by rw [ByteArray.toList_eq, size_list]; exact h0
     exact List.eq_nil_of_length_eq_zero this
    have hrf : r = false := HF.out (by rw [HLB.out, h0]; rfl)
    subst hrf
    clear HF
    go_wp2
    go_ret
    exact ⟨rfl, HBW.out⟩
   ·
    have hne : ¬ x.toList = [] := fun e => h0 (by rw [← size_list, ← ByteArray.toList_eq, e]; rfl)
    have hne2 : x.toList.isEmpty = false := by simpa using hne
    have hlb : lab5 x.data.toList = x.data.toList.all both5 := by rw [HLB.out, decide_eq_true (by omega : 1 ≤ x.size), Bool.true_and]
    have HD := Lib.hid (both_calls wr)
    have HV : Hid (∀ g lb w, Asks (.func (.func g) #[] lb) both5 w → Calls Tryz.prog 146 #[.string x, .func (.func g) #[] lb] w fun e w' => e = .returned (.bool (x.data.toList.all both5)) ∧ ∃ q, w' = w.drewN q) :=
     fun g lb w ha => every_calls x g lb both5 w (by omega) ha
    rw [← hlb] at HV
    have HW2 : Hid (∀ w2 q, Below wr.heap.size wr w2 → Below w1'.heap.size w1' (w2.drewN q)) := fun w2 q hb => below_drewN (below_next HW.out hb) q
    have HBW2 : Hid (∀ w2 q, Below wr.heap.size wr w2 → Below w.heap.size w (w2.drewN q)) := fun w2 q hb => below_drewN (below_next HBW.out hb) q
    clear HLB hlb h0 HW HBW
    cases hq : lab5 x.data.toList with
    | true =>
     rw [hq] at HV
     have HX := Lib.hid (HA2.out hq)
     clear hq HF HA2 HBW2
     go_wp2_with fail
     with_reducible refine HD.out.mono ?_
     rintro e w2 ⟨g, lb, rfl, ha, hb⟩
     have HE := Lib.hid (HV.out g lb w2 ha)
     have HB2 := Lib.hid hb
     clear ha hb HV HD
     go_wp2_with (go_at_call 146; with_reducible refine HE.out.mono ?_; rintro e w3 ⟨rfl, q, rfl⟩)
     go_roundg (n - (k + 1))
     case measure => omega
     case rel => exact ⟨k + 1, by omega, by omega, by go_num, HW2.out _ _ HB2.out, HX⟩
    | false =>
     rw [hq] at HV
     have hrf : r = false := HF.out hq
     subst hrf
     clear hq HF HA2 HW2
     go_wp2_with fail
     with_reducible refine HD.out.mono ?_
     rintro e w2 ⟨g, lb, rfl, ha, hb⟩
     have HE := Lib.hid (HV.out g lb w2 ha)
     have HB2 := Lib.hid hb
     clear ha hb HV HD
     go_wp2_with (go_at_call 146; with_reducible refine HE.out.mono ?_; rintro e w3 ⟨rfl, q, rfl⟩)
     go_ret
     exact ⟨rfl, HBW2.out _ _ HB2.out⟩
  ·
   have hltz : ¬ (k : Int) < (n : Int) := by omega
   obtain rfl : k = n := by omega
   have hra : r = decide ((k : Int) ≥ 2) := by
    rw [HR.out]
    have : ps.all (fun x => lab5 x.data.toList) = true := by
     rw [List.all_eq_true]
     intro x hx
     obtain ⟨j, hj, rfl⟩ := List.getElem_of_mem hx
     exact A.out j hj (by have := HL.out; omega)
    rw [this, Bool.true_and]
    by_cases h2 : 2 ≤ k
    ·
     rw [decide_eq_true h2, decide_eq_true (by omega)]
    ·
     rw [decide_eq_false h2, decide_eq_false (by omega)]
   have HBW := Lib.hid (below_next HB1.out HW.out)
   have HRA := Lib.hid hra
   clear hra HW
   go_wp2
   go_ret
   exact ⟨by rw [HRA.out]; rfl, HBW.out⟩

def cut5 (l : List UInt8) : List UInt8 × List UInt8 × Bool := Lib.cut (fold5 l) [64]
def mail5 (l : List UInt8) : Bool := decide (l.length ≤ 20) && (cut5 l).2.2 && name5 (cut5 l).1 && dom5 both5 (cut5 l).2.1
def mailT (l : List UInt8) : ByteArray := if mail5 l then ⟨(fold5 l).toArray⟩ else ⟨#[]⟩
def Mails5 (b : Bool) (t : ByteArray) (w : World) (e : Ending) (w' : World) : Prop := e = .returned (.tuple #[.string t, .int .i64 (err5 b 11)]) ∧ Below w.heap.size w w'

theorem fold5_length (l : List UInt8) : (fold5 l).length = l.length := by simp [fold5]

theorem cut_lengths (l sep : List UInt8) : (Lib.cut l sep).1.length ≤ l.length ∧ (Lib.cut l sep).2.1.length ≤ l.length := by
 unfold Lib.cut
 split <;> simp
 exact Nat.min_le_right _ _

set_option maxRecDepth 100000 in
theorem mail_calls (s : ByteArray) (w : World) (hs : s.size ≤ 9223372036854775807) (hm : Len5 w) :
  Calls Tryz.prog 113 #[.string s] w (Mails5 (mail5 s.data.toList) (mailT s.data.toList) w) := by
 by_cases h20 : s.size ≤ 20
 ·
  have hm1 : mail5 s.data.toList = ((cut5 s.data.toList).2.2 && name5 (cut5 s.data.toList).1 && dom5 both5 (cut5 s.data.toList).2.1) := by
   unfold mail5
   rw [size_list, decide_eq_true h20, Bool.true_and]
  have hfl : (fold5 s.data.toList).length = s.size := by rw [fold5_length, size_list]
  have hl := cut_lengths (fold5 s.data.toList) [64]
  rw [hfl] at hl
  have HF := Lib.hid (fold_calls s w hs)
  have HCT : Hid (∀ w, Len5 w → Calls Tryz.prog 144 #[.string ⟨(fold5 s.data.toList).toArray⟩, .string ⟨#[64]⟩] w fun e w' => e = .returned (.tuple #[.string ⟨(cut5 s.data.toList).1.toArray⟩, .string ⟨(cut5 s.data.toList).2.1.toArray⟩, .bool (cut5 s.data.toList).2.2]) ∧ ∃ n, w' = w.drewN n) := fun w h => by
   obtain ⟨m, hm⟩ := h.2
   have := Tryz.strings_Cut ⟨(fold5 s.data.toList).toArray⟩ ⟨#[64]⟩ m w (by show (fold5 s.data.toList).toArray.size < _; rw [List.size_toArray, hfl]; omega) hm
   exact this
  have HNM : Hid (∀ w, Calls Tryz.prog 107 #[.string ⟨(cut5 s.data.toList).1.toArray⟩] w (Tells5 (name5 (cut5 s.data.toList).1) w)) := fun w =>
   name_calls ⟨(cut5 s.data.toList).1.toArray⟩ w (by show (cut5 s.data.toList).1.toArray.size ≤ _; rw [List.size_toArray]; exact Nat.le_trans hl.1 (by omega))
  have HDM : Hid (∀ w, Len5 w → Calls Tryz.prog 145 #[.string ⟨(cut5 s.data.toList).2.1.toArray⟩] w (Tells5 (dom5 both5 (cut5 s.data.toList).2.1) w)) := fun w h =>
   domain_calls ⟨(cut5 s.data.toList).2.1.toArray⟩ w (by show (cut5 s.data.toList).2.1.toArray.size ≤ _; rw [List.size_toArray]; exact Nat.le_trans hl.2 (by omega)) h
  unfold mailT
  rw [hm1]
  have HM := Lib.hid hm
  clear hm hl hfl hm1
  generalize (⟨(fold5 s.data.toList).toArray⟩ : ByteArray) = f at *
  generalize cut5 s.data.toList = c at *
  obtain ⟨c1, c2, b⟩ := c
  simp only at HCT HNM HDM ⊢
  generalize (⟨c1.toArray⟩ : ByteArray) = t1 at *
  generalize (⟨c2.toArray⟩ : ByteArray) = t2 at *
  generalize name5 c1 = bn at *
  generalize dom5 both5 c2 = bd at *
  generalize hn : s.size = n at *
  have z : ¬ (n : Int) > 20 := by omega
  have z' : ¬ 20 < n := by omega
  obtain ⟨r, hr⟩ : ∃ r : Bool, r = (b && bn && bd) := ⟨_, rfl⟩
  obtain ⟨rt, hrt⟩ : ∃ rt : ByteArray, rt = if (b && bn && bd) = true then f else ⟨#[]⟩ := ⟨_, rfl⟩
  rw [← hrt, ← hr]
  have HR := Lib.hid hr
  have HRT := Lib.hid hrt
  clear hr hrt
  go_enter Tryz.func113, Tryz.ntmps113
  go_wp2_with fail
  with_reducible refine HF.out.mono ?_
  rintro e w1 ⟨rfl, hb⟩
  have HB1 := Lib.hid hb
  have HC1 := Lib.hid (HCT.out w1 (HM.out.later hb))
  have HM1 := Lib.hid (HM.out.later hb)
  clear hb HF HCT
  go_wp2_with fail
  with_reducible refine HC1.out.mono ?_
  rintro e w2 ⟨rfl, q, rfl⟩
  have HB2 := Lib.hid (below_drewN HB1.out q)
  have HM2 := Lib.hid (HM1.out.later (below_drewN (Below.refl w1.heap.size w1) q))
  generalize w1.drewN q = w2 at *
  clear HC1 HB1 HM1
  cases b with
  | false =>
   have hr : r = false := HR.out
   have hrt : rt = ⟨#[]⟩ := HRT.out
   subst hr; subst hrt
   go_wp2
   go_ret2; exact ⟨rfl, HB2.out⟩
  | true =>
   have HN2 := Lib.hid (HNM.out w2)
   cases bn with
   | false =>
    have hr : r = false := HR.out
    have hrt : rt = ⟨#[]⟩ := HRT.out
    subst hr; subst hrt
    go_wp2_with fail
    with_reducible refine HN2.out.mono ?_
    rintro e w3 ⟨rfl, hb⟩
    have HB3 := Lib.hid (below_next HB2.out hb)
    clear hb
    go_wp2
    go_ret2; exact ⟨rfl, HB3.out⟩
   | true =>
    go_wp2_with fail
    with_reducible refine HN2.out.mono ?_
    rintro e w3 ⟨rfl, hb⟩
    have HB3 := Lib.hid (below_next HB2.out hb)
    have HD3 := Lib.hid (HDM.out w3 (HM2.out.later hb))
    clear hb HN2 HDM HNM
    go_wp2_with fail
    with_reducible refine HD3.out.mono ?_
    rintro e w4 ⟨rfl, hb⟩
    have HB4 := Lib.hid (below_next HB3.out hb)
    clear hb
    cases bd with
    | false =>
     have hr : r = false := HR.out
     have hrt : rt = ⟨#[]⟩ := HRT.out
     subst hr; subst hrt
     go_wp2
     go_ret2; exact ⟨rfl, HB4.out⟩
    | true =>
     have hr : r = true := HR.out
     have hrt : rt = f := HRT.out
     subst hr; subst hrt
     go_wp2
     go_ret2; exact ⟨rfl, HB4.out⟩
 ·
  have hm1 : mail5 s.data.toList = false := by
   unfold mail5
   rw [size_list, decide_eq_false h20]; rfl
  have hm2 : mailT s.data.toList = ⟨#[]⟩ := by unfold mailT; rw [hm1]; rfl
  rw [hm1, hm2]
  clear hm1 hm2 hm
  generalize hn : s.size = n at *
  have z : (n : Int) > 20 := by omega
  have z' : 20 < n := by omega
  go_enter Tryz.func113, Tryz.ntmps113
  go_wp2
  go_ret2; exact ⟨rfl, Below.refl _ _⟩

set_option maxRecDepth 100000 in
theorem compare_calls (a b : ByteArray) (w : World) :
  Calls Tryz.prog 121 #[.string a, .string b] w fun e w' => e = .returned (.int .i64 (Lib.compareBytes a.data.toList b.data.toList)) ∧ w' = w := by
 have HC := Lib.hid (Tryz.strings_Compare a b w)
 generalize Lib.compareBytes a.data.toList b.data.toList = r at *
 go_enter Tryz.func121, Tryz.ntmps121
 go_wp2_with fail
 with_reducible refine HC.out.mono ?_
 rintro e w1 ⟨rfl, rfl⟩
 go_wp2
 go_ret
 exact ⟨rfl, rfl⟩
end Go.Proofs.YthlgmkfofebbfaaGreatDoor


namespace Go.Proofs.YthlgmkfofebbfaaGreatDoor
open Go.RowKit Go.Maps

theorem foldC_again9 (x : UInt8) : foldC (foldC x) = foldC x := by
 cases h : inR 65 90 x with
 | false => rw [foldC_miss h, foldC_miss h]
 | true =>
  obtain ⟨e, h1, h2⟩ := foldC_hit h
  refine foldC_miss ?_
  unfold inR
  have : ¬ (foldC x).toNat ≤ 90 := by omega
  rw [decide_eq_false this, Bool.and_false]
theorem fold5_again9 (l : List UInt8) : fold5 (fold5 l) = fold5 l := by
 unfold fold5
 rw [List.map_map]
 exact List.map_congr_left fun x _ => foldC_again9 x
theorem mail5_fold {l m : List UInt8} (h : fold5 l = fold5 m) : mail5 l = mail5 m := by
 unfold mail5 cut5
 have hl : l.length = m.length := by rw [← fold5_length l, h, fold5_length]
 rw [h, hl]
theorem mail5_again9 (l : List UInt8) : mail5 (fold5 l) = mail5 l := mail5_fold (fold5_again9 l)
theorem mail5_len {l : List UInt8} (h : mail5 l = true) : l.length ≤ 20 := by
 unfold mail5 at h
 simp only [Bool.and_eq_true, decide_eq_true_eq] at h
 exact h.1.1.1
theorem mail5_nil : mail5 [] = false := by decide
theorem name5_len {n : List UInt8} (h : name5 n = true) : n.length ≤ 12 := by
 unfold name5 pref5 at h
 simp only [Bool.and_eq_true, decide_eq_true_eq] at h
 exact h.1.1.2.1

def May9 (x : List UInt8 × List UInt8) : Prop := name5 x.1 = true ∧ mail5 x.2 = true ∧ fold5 x.2 = x.2
theorem May9.of {n m : List UInt8} (hn : name5 n = true) (hm : mail5 m = true) : May9 (n, fold5 m) := ⟨hn, by rw [mail5_again9]; exact hm, fold5_again9 m⟩

structure MapOr9 (w : World) (p : Option Nat) (L : Row7) : Prop where
 nil : p = none → L = []
 map : ∀ b, p = some b → Map7 w b L
theorem MapOr9.turns {w w' : World} {p : Option Nat} {L : Row7} {S : Nat → Prop} (h : MapOr9 w p L) (ht : Turns S w w') (hp : ∀ b, p = some b → ¬ S b) : MapOr9 w' p L :=
 ⟨h.nil, fun b hb => (h.map b hb).kept (ht.block b (h.map b hb).lt (hp b hb))⟩

section
variable {w : World} {p : Option Nat} {L : Row7}
theorem look9 (h : MapOr9 w p L) (s : ByteArray) (hs : s.size ≤ maxLen) :
  (Instr.lookup 99 (.map p) (.string s) true).run Tryz.prog w = .ok (.tuple #[.string (tx7 (getE L s.data.toList)), .bool (hasE L s.data.toList)]) w := by
 cases p with
 | none =>
  have hL := h.nil rfl
  subst hL
  have := Maps.look_nil (P := Tryz.prog) (w := w) (t := 99) true keyed7 Tryz.underlying99 (zero7 w) (key7 s hs)
  exact this
 | some b =>
  obtain ⟨v, ps, hrun, hv⟩ := (h.map b rfl).look_ok keyed7 Tryz.underlying99 (zero7 w) (plainElem_string (H := Unit) Tryz.underlying9 (s := ⟨#[]⟩) (by decide)) (key7 s hs)
  obtain ⟨c, rfl, hc, _⟩ := plainElem_string_inv Tryz.underlying9 hv
  rw [hrun, datE_has]
  have e : (datE L).atKey (.string s.data.toList) (.lit (.string [])) = .lit (.string (getE L s.data.toList)) := datE_at L _
  have hc' : (datE L).atKey (.string s.data.toList) (.lit (.string [])) = .lit (.string c.data.toList) := congrArg Prod.fst hc
  rw [e] at hc'
  have : getE L s.data.toList = c.data.toList := by simpa using hc'
  rw [this, tx7_back]
theorem drop9 (h : MapOr9 w p L) (s : ByteArray) (hs : s.size ≤ maxLen) (ty : TypeId) :
  ∃ w', (Builtin.delete_ #[99, 9] ty #[.map p, .string s]).run Tryz.prog w = .ok (.tuple #[]) w' ∧ MapOr9 w' p (delE L s.data.toList) ∧ Turns (fun i => p = some i) w w' := by
 cases p with
 | none =>
  have hL := h.nil rfl
  subst hL
  exact ⟨w, Maps.drop_nil keyed7 Tryz.underlying99 (key7 s hs) ty, ⟨fun _ => rfl, (fun _ h => nomatch h)⟩, Turns.refl _ w⟩
 | some b =>
  obtain ⟨w', hrun, hown, ht⟩ := (h.map b rfl).drop keyed7 Tryz.underlying99 (key7 s hs) ty
  rw [datE_del] at hown
  exact ⟨w', hrun, ⟨(fun h => nomatch h), fun b' hb' => by cases hb'; exact Map7.of hown⟩, (Turns.refl _ w).grown ht.grown (fun k hk _ => hk.symm ▸ rfl)⟩
theorem nilmap9 (w : World) (p : Option Nat) : (binOp .eql 99 (.map p) (.map none)).run Tryz.prog w = .ok (.bool p.isNone) w :=
 run_eql_map_nil_sl w 99 _ _ p Tryz.underlying99
end

def Half9 (W : World) (b : Nat) (L' : Row7) (st val : Value) : Prop :=
 ∃ o, W.heap[b]? = some o ∧ ∀ W2 : World, W2.heap[b]? = some o → ∃ W3, (Instr.entryStore 99 (.map (some b)) st val).run Tryz.prog W2 = .ok () W3 ∧ Map7 W3 b L' ∧ W2.mapTurned W3 b
theorem half9 {W : World} {b : Nat} {L : Row7} (h : Map7 W b L) (hf : L.length ≤ 1000) (k v : ByteArray) (hk : k.size ≤ maxLen) (hv : v.size ≤ maxLen) :
  ∃ (v0 : Value) (st : Nat) (W1 : World), (Instr.mapEntry 99 (.map (some b)) (.string k)).run Tryz.prog W = .ok (.tuple #[v0, .int .i64 (st : Int)]) W1 ∧ Half9 W1 b (putE L k.data.toList v.data.toList) (.int .i64 (st : Int)) (.string v) ∧ W.mapTurned W1 b := by
 obtain ⟨w', hrun, hown, _⟩ := h.store keyed7 Tryz.underlying99 (Nat.lt_of_le_of_lt hf (by decide)) (key7 k hk) (plainElem_string (H := Unit) Tryz.underlying9 hv)
 rw [datE_put] at hown
 have hM := Map7.of hown
 obtain ⟨es, clock, hb, F, _, _⟩ := h
 obtain ⟨v0, st, es1, clock1, h1, _, h3⟩ := WideElems.entry_then_store (t := 99) (WideMaps.string_law Tryz.underlying9) Tryz.underlying99 (z := .string ⟨#[]⟩) (fun u => zero7 u) hb F (key7 k hk)
 refine ⟨v0, st, _, h1, ⟨_, ChangeMaps.heap_setBlock_same hb _, fun W2 hW2 => ?_⟩, ⟨es, clock, es1, clock1, hb, rfl⟩⟩
 obtain ⟨es', clock', r1, r2⟩ := h3 W2 (.string v) hW2
 rw [hrun] at r2
 injection r2 with _ r2
 refine ⟨_, r1, hM.kept ?_, ⟨es1, clock1, es', clock', hW2, rfl⟩⟩
 rw [ChangeMaps.heap_setBlock_same hW2, r2, ChangeMaps.heap_setBlock_same hb]
theorem Half9.kept {W W' : World} {b : Nat} {L' : Row7} {st val : Value} (h : Half9 W b L' st val) (hb : W'.heap[b]? = W.heap[b]?) : Half9 W' b L' st val := by
 obtain ⟨o, h1, h2⟩ := h
 exact ⟨o, hb.trans h1, h2⟩

structure Idx9 (w : World) (B : Nat) (p q : Option Nat) (L M : Row7) : Prop where
 blk : w.heap[B]? = some (.cells #[.map p, .map q] 101 (0, 0))
 mapp : MapOr9 w p L
 mapq : MapOr9 w q M
 both : p.isSome = q.isSome
 apt : ∀ b c, p = some b → q = some c → b ≠ c
 mir : Mirror9 L M
 few : L.length ≤ 100
 all : ∀ x ∈ L, May9 x

section
variable {w w' : World} {B : Nat} {p q : Option Nat} {L M : Row7}
theorem Idx9.lt (h : Idx9 w B p q L M) : B < w.heap.size := (Array.getElem?_eq_some_iff.1 h.blk).1
theorem Idx9.plt (h : Idx9 w B p q L M) : ∀ b, p = some b → b < w.heap.size := fun b hb => (h.mapp.map b hb).lt
theorem Idx9.qlt (h : Idx9 w B p q L M) : ∀ b, q = some b → b < w.heap.size := fun b hb => (h.mapq.map b hb).lt
theorem Idx9.cell0 (h : Idx9 w B p q L M) : w.cell? ⟨B, 0, none⟩ = some (.map p) := by simp [World.cell?, h.blk]
theorem Idx9.cell1 (h : Idx9 w B p q L M) : w.cell? ⟨B, 1, none⟩ = some (.map q) := by simp [World.cell?, h.blk]
theorem Idx9.frozen0 (h : Idx9 w B p q L M) : w.frozen? ⟨B, 0, none⟩ = false := by simp [World.frozen?, h.blk]
theorem Idx9.frozen1 (h : Idx9 w B p q L M) : w.frozen? ⟨B, 1, none⟩ = false := by simp [World.frozen?, h.blk]
theorem map_ne_cells {b : Nat} {L : Row7} {c : Array Value} {T : TypeId} {fr : Nat × Nat} (hm : Map7 w b L) (hB : w.heap[B]? = some (.cells c T fr)) : b ≠ B := fun e => by
 obtain ⟨es, clock, h1, _⟩ := hm
 subst e
 rw [hB] at h1
 cases h1
theorem Idx9.pne (h : Idx9 w B p q L M) : ∀ b, p = some b → b ≠ B := fun b hb => map_ne_cells (h.mapp.map b hb) h.blk
theorem Idx9.qne (h : Idx9 w B p q L M) : ∀ b, q = some b → b ≠ B := fun b hb => map_ne_cells (h.mapq.map b hb) h.blk
theorem Idx9.turns {S : Nat → Prop} (h : Idx9 w B p q L M) (ht : Turns S w w') (hB : ¬ S B) (hp : ∀ b, p = some b → ¬ S b) (hq : ∀ b, q = some b → ¬ S b) : Idx9 w' B p q L M :=
 ⟨(ht.block B h.lt hB).trans h.blk, h.mapp.turns ht hp, h.mapq.turns ht hq, h.both, h.apt, h.mir, h.few, h.all⟩
theorem Idx9.later (h : Idx9 w B p q L M) (hb : Below w.heap.size w w') : Idx9 w' B p q L M := h.turns (Turns.of_below hb (fun _ => False)) (fun f => f) (fun _ _ f => f) (fun _ _ f => f)
theorem Idx9.rise (h : Idx9 w B p q L M) : Rise7 L := h.mir.rl
end

def Turn9 (B : Nat) (p q : Option Nat) (w w' : World) : Prop := Turns (fun i => i = B ∨ p = some i ∨ q = some i) w w'
def Goes9 (w : World) (B : Nat) (p q : Option Nat) (L' : Row7) (w' : World) : Prop :=
 ∃ p' q' M', Idx9 w' B p' q' L' M' ∧ (∀ b, p' = some b → p = some b ∨ w.heap.size ≤ b) ∧ (∀ b, q' = some b → q = some b ∨ w.heap.size ≤ b) ∧ Turn9 B p q w w'
theorem Goes9.still {w w' : World} {B : Nat} {p q : Option Nat} {L M : Row7} (h : Idx9 w B p q L M) (hb : Below w.heap.size w w') : Goes9 w B p q L w' :=
 ⟨p, q, M, h.later hb, fun _ e => .inl e, fun _ e => .inl e, Turns.of_below hb _⟩
theorem Goes9.ahead {w w1 w' : World} {B : Nat} {p q : Option Nat} {L' : Row7} (hb : Below w.heap.size w w1) (h : Goes9 w1 B p q L' w') : Goes9 w B p q L' w' := by
 obtain ⟨p', q', M', hd, hp, hq, ht⟩ := h
 exact ⟨p', q', M', hd, fun b e => (hp b e).imp id (fun h => Nat.le_trans hb.size h), fun b e => (hq b e).imp id (fun h => Nat.le_trans hb.size h), (Turns.of_below hb _).next ht (fun i _ h => h)⟩
theorem Goes9.behind {w w1 w' : World} {B : Nat} {p q : Option Nat} {L' : Row7} (h : Goes9 w B p q L' w1) (hb : Below w1.heap.size w1 w') : Goes9 w B p q L' w' := by
 obtain ⟨p', q', M', hd, hp, hq, ht⟩ := h
 exact ⟨p', q', M', hd.later hb, hp, hq, Turns.next ht (Turns.of_below hb (fun _ => False)) (fun _ _ f => f.elim)⟩

set_option maxRecDepth 100000 in
theorem new9_calls (w : World) : Calls Tryz.prog 30 #[] w fun e w' => e = .returned (.pointer (some ⟨w.heap.size, 0, none⟩)) ∧ w' = w.alloc (.cells #[.map none, .map none] 101) := by
 go_enter Tryz.func30, Tryz.ntmps30
 go_wp2
 go_ret
 exact ⟨rfl, rfl⟩
theorem idx9_new (w : World) : Idx9 (w.alloc (.cells #[.map none, .map none] 101)) w.heap.size none none [] [] :=
 ⟨(MapKept.heap_alloc w _).1, ⟨fun _ => rfl, (fun _ h => nomatch h)⟩, ⟨fun _ => rfl, (fun _ h => nomatch h)⟩, rfl, (fun _ _ h => nomatch h), Mirror9.nil, by simp, (fun _ h => nomatch h)⟩

set_option maxRecDepth 100000 in
theorem of9_calls (B : Nat) (p q : Option Nat) (L M : Row7) (s : ByteArray) (w : World) (h : Idx9 w B p q L M) (hs : s.size ≤ maxLen) :
  Calls Tryz.prog 110 #[.pointer (some ⟨B, 0, none⟩), .string s] w fun e w' => e = .returned (.tuple #[.string (tx7 (getE L s.data.toList)), .bool (hasE L s.data.toList)]) ∧ w' = w := by
 have hc := h.cell0
 have hl := look9 h.mapp s hs
 generalize hasE L s.data.toList = r at *
 generalize tx7 (getE L s.data.toList) = g at *
 clear h hs
 go_enter Tryz.func110, Tryz.ntmps110
 go_wp2
 go_ret2
 exact ⟨rfl, rfl⟩

def fiE9 (L : Row7) (m : List UInt8) : Int := if mail5 m then (if hasO L (fold5 m) then 0 else 8) else 11
def fiS9 (L : Row7) (m : List UInt8) : List UInt8 := if fiE9 L m = 0 then ownO L (fold5 m) else []

set_option maxRecDepth 100000 in
theorem find9_calls (B : Nat) (p q : Option Nat) (L M : Row7) (s : ByteArray) (w : World) (h : Idx9 w B p q L M) (hs : s.size ≤ 9223372036854775807) (hm : Len5 w) :
  Calls Tryz.prog 56 #[.pointer (some ⟨B, 0, none⟩), .string s] w fun e w' => e = .returned (.tuple #[.string (tx7 (fiS9 L s.data.toList)), .int .i64 (fiE9 L s.data.toList)]) ∧ Below w.heap.size w w' := by
 have HM := Lib.hid (mail_calls s w hs hm)
 unfold fiS9 fiE9
 unfold mailT at HM
 cases hb : mail5 s.data.toList with
 | false =>
  rw [hb] at HM
  clear h
  show Calls _ _ _ _ fun e w' => e = .returned (.tuple #[.string ⟨#[]⟩, .int .i64 11]) ∧ Below w.heap.size w w'
  have HM2 : Hid (Calls Tryz.prog 113 #[.string s] w fun e w' => e = .returned (.tuple #[.string ⟨#[]⟩, .int .i64 11]) ∧ Below w.heap.size w w') := HM.out
  clear HM hb
  go_enter Tryz.func56, Tryz.ntmps56
  go_wp2_with fail
  with_reducible refine HM2.out.mono ?_
  rintro e w1 ⟨rfl, hb⟩
  have HB := Lib.hid hb
  clear hb HM2
  go_wp2
  go_ret2
  exact ⟨rfl, HB.out⟩
 | true =>
  rw [hb] at HM
  have HM2 : Hid (Calls Tryz.prog 113 #[.string s] w fun e w' => e = .returned (.tuple #[.string ⟨(fold5 s.data.toList).toArray⟩, .int .i64 0]) ∧ Below w.heap.size w w') := HM.out
  have hfz : (ByteArray.mk (fold5 s.data.toList).toArray).size ≤ maxLen := by
   show (fold5 s.data.toList).toArray.size ≤ _
   rw [List.size_toArray, fold5_length, size_list]; exact Nat.le_trans hs (by decide)
  have HL : Hid (∀ W, Idx9 W B p q L M → (Instr.lookup 99 (.map q) (.string ⟨(fold5 s.data.toList).toArray⟩) true).run Tryz.prog W = .ok (.tuple #[.string (tx7 (ownO L (fold5 s.data.toList))), .bool (hasO L (fold5 s.data.toList))]) W) := fun W hW => by
   have := look9 hW.mapq ⟨(fold5 s.data.toList).toArray⟩ hfz
   have e : (ByteArray.mk (fold5 s.data.toList).toArray).data.toList = fold5 s.data.toList := by simp
   rw [e, hW.mir.get, hW.mir.has] at this
   exact this
  have HI := Lib.hid h
  clear HM hb h hfz
  simp only [if_true]
  have ho : hasO L (fold5 s.data.toList) = false → ownO L (fold5 s.data.toList) = [] := ownO_none
  generalize ownO L (fold5 s.data.toList) = o at *
  generalize hasO L (fold5 s.data.toList) = b at *
  generalize (⟨(fold5 s.data.toList).toArray⟩ : ByteArray) = f at *
  cases b with
  | true =>
   show Calls _ _ _ _ fun e w' => e = .returned (.tuple #[.string (tx7 o), .int .i64 0]) ∧ Below w.heap.size w w'
   clear ho
   generalize tx7 o = t at *
   go_enter Tryz.func56, Tryz.ntmps56
   go_wp2_with fail
   with_reducible refine HM2.out.mono ?_
   rintro e w1 ⟨rfl, hb⟩
   have HB := Lib.hid hb
   have c1 := (HI.out.later hb).cell1
   have l1 := HL.out w1 (HI.out.later hb)
   clear hb HM2 HL
   go_wp2
   go_ret2
   exact ⟨rfl, HB.out⟩
  | false =>
   show Calls _ _ _ _ fun e w' => e = .returned (.tuple #[.string ⟨#[]⟩, .int .i64 8]) ∧ Below w.heap.size w w'
   clear ho
   generalize tx7 o = t at *
   go_enter Tryz.func56, Tryz.ntmps56
   go_wp2_with fail
   with_reducible refine HM2.out.mono ?_
   rintro e w1 ⟨rfl, hb⟩
   have HB := Lib.hid hb
   have c1 := (HI.out.later hb).cell1
   have l1 := HL.out w1 (HI.out.later hb)
   clear hb HM2 HL
   go_wp2
   go_ret2
   exact ⟨rfl, HB.out⟩
end Go.Proofs.YthlgmkfofebbfaaGreatDoor


namespace Go.Proofs.YthlgmkfofebbfaaGreatDoor
open Go.RowKit

def putL : List (Option Tmp) → (Nat → Value) → Nat → Act → Act
 | [], _, _, a => a
 | d :: ds, x, k, a => putL ds x (k + 1) (a.put d (x k))
def apartL : List (Option Tmp) → Bool
 | [] => true
 | none :: r => apartL r
 | some d :: r => !(r.contains (some d)) && apartL r
def upd (x : Nat → Value) (i : Nat) (v : Value) : Nat → Value := fun j => if j = i then v else x j

theorem put_put (a : Act) (d : Option Tmp) (u v : Value) : (a.put d u).put d v = a.put d v := by
 cases d with
 | none => rfl
 | some d => simp [Act.put]
theorem putL_put {ds : List (Option Tmp)} {x : Nat → Value} {d : Option Tmp} {v : Value} : ∀ {k : Nat} {a : Act}, (∀ t, d = some t → some t ∉ ds) → (putL ds x k a).put d v = putL ds x k (a.put d v) := by
 induction ds with
 | nil => intro k a _; rfl
 | cons e ds ih =>
  intro k a h
  show (putL ds x (k + 1) (a.put e (x k))).put d v = putL ds x (k + 1) ((a.put d v).put e (x k))
  rw [ih (fun t ht hm => h t ht (List.mem_cons_of_mem _ hm)), Act.put_comm]
  intro t he hd
  exact h t hd (he ▸ List.mem_cons_self ..)
theorem putL_congr {ds : List (Option Tmp)} {x y : Nat → Value} : ∀ {k : Nat} {a : Act}, (∀ j, k ≤ j → x j = y j) → putL ds x k a = putL ds y k a := by
 induction ds with
 | nil => intro _ _ _; rfl
 | cons d ds ih =>
  intro k a h
  show putL ds x (k + 1) (a.put d (x k)) = putL ds y (k + 1) (a.put d (y k))
  rw [h k (Nat.le_refl _), ih (fun j hj => h j (by omega))]
theorem putL_upd {ds : List (Option Tmp)} {x : Nat → Value} {v : Value} : ∀ {i k : Nat} {a : Act} {d : Option Tmp}, apartL ds = true → ds[i]? = some d → (putL ds x k a).put d v = putL ds (upd x (k + i) v) k a := by
 induction ds with
 | nil => intro i k a d _ h; simp at h
 | cons e ds ih =>
  intro i k a d hap hi
  have hap' : apartL ds = true ∧ ∀ t, e = some t → some t ∉ ds := by
   cases e with
   | none => exact ⟨hap, fun t h => by cases h⟩
   | some t =>
    simp only [apartL, Bool.and_eq_true, Bool.not_eq_true', List.contains_eq_mem, decide_eq_false_iff_not] at hap
    exact ⟨hap.2, fun u hu => by injection hu with hu; subst hu; exact hap.1⟩
  cases i with
  | zero =>
   have he : e = d := by simpa using hi
   subst he
   show (putL ds x (k + 1) (a.put e (x k))).put e v = putL ds (upd x k v) (k + 1) (a.put e (upd x k v k))
   rw [putL_put hap'.2, put_put, show upd x k v k = v from if_pos rfl]
   exact putL_congr (fun j hj => (if_neg (by omega)).symm)
  | succ i =>
   show (putL ds x (k + 1) (a.put e (x k))).put d v = putL ds (upd x (k + (i + 1)) v) (k + 1) (a.put e (upd x (k + (i + 1)) v k))
   rw [ih hap'.1 (by simpa using hi), show upd x (k + (i + 1)) v k = x k from if_neg (by omega), show k + 1 + i = k + (i + 1) by omega]

section
variable {P : Program} {ops : Array Oper} {Q : Exit → Act → World → Prop} {md : Region.Mode}

theorem all_listed {listed : Array Bool} (hsz : listed.size = ops.size) (back : ∀ (i : Nat) (o : Oper), ops[i]? = some o → ∀ e ∈ o.after, e.on < i) (h : Region.ready md ops listed = []) :
  ∀ j, j < ops.size → listed.getD j false = true := by
 intro j
 induction j using Nat.strongRecOn with
 | _ j ih =>
  intro hj
  cases hl : listed.getD j false with
  | true => rfl
  | false =>
   exfalso
   have hm : j ∈ Region.ready md ops listed := by
    rw [mem_ready]
    refine ⟨?_, ops[j], Array.getElem?_eq_getElem hj, fun e he _ => ih e.on (back j _ (Array.getElem?_eq_getElem hj) e he) (Nat.lt_trans (back j _ (Array.getElem?_eq_getElem hj) e he) hj)⟩
    have hlt : j < listed.size := by omega
    simpa [Array.getD_eq_getD_getElem?, Array.getElem?_eq_getElem hlt] using hl
   rw [h] at hm
   cases hm

def Closed (md : Region.Mode) (ops : Array Oper) (L : Nat → Bool) : Prop := ∀ (j : Nat) (o : Oper), ops[j]? = some o → L j = true → ∀ d, (o.after.toList.any fun e => Region.binds md e && e.on == d) = true → L d = true
def updL (L : Nat → Bool) (i : Nat) : Nat → Bool := fun j => if j = i then true else L j

theorem wpAny_inv (a : Act) (Y : Nat → Value → World → Prop) (G : (Nat → Bool) → World → Prop) (hap : apartL (ops.toList.map (·.dst)) = true)
  (back : ∀ (i : Nat) (o : Oper), ops[i]? = some o → ∀ e ∈ o.after, e.on < i)
  (step : ∀ (i : Nat) (o : Oper), ops[i]? = some o → ∀ (L : Nat → Bool) (x : Nat → Value) (w : World), L i = false → (∀ d, (o.after.toList.any fun e => Region.binds md e && e.on == d) = true → L d = true) → Closed md ops L → G L w → (∀ j, L j = true → Y j (x j) w) →
   ∀ K : Act → World → Prop, (∀ v w', Y i v w' → G (updL L i) w' → (∀ j, L j = true → Y j (x j) w → Y j (x j) w') → K ((putL (ops.toList.map (·.dst)) x 0 a).put o.dst v) w') →
    if Region.wanted o (yielded ops (putL (ops.toList.map (·.dst)) x 0 a).tmps) = true then Oper.wp P o (putL (ops.toList.map (·.dst)) x 0 a) w K Q else K ((putL (ops.toList.map (·.dst)) x 0 a).put o.dst undef) w)
  (fin : ∀ (L : Nat → Bool) (x : Nat → Value) (w : World), (∀ j, j < ops.size → L j = true) → G L w → (∀ j, j < ops.size → Y j (x j) w) → Q .normal (putL (ops.toList.map (·.dst)) x 0 a) w) :
  ∀ (fuel : Nat) (listed : Array Bool) (x : Nat → Value) (w : World), listed.size = ops.size → listed.toList.count false ≤ fuel → Closed md ops (fun j => listed.getD j false) → G (fun j => listed.getD j false) w → (∀ j, listed.getD j false = true → Y j (x j) w) →
   wpAny P md ops Q fuel listed (putL (ops.toList.map (·.dst)) x 0 a) w := by
 intro fuel
 induction fuel with
 | zero =>
  intro listed x w hsz hc hcl hG hY
  have hall : ∀ j, j < ops.size → listed.getD j false = true := by
   intro j hj
   cases hl : listed.getD j false with
   | true => rfl
   | false =>
    exfalso
    have hlt : j < listed.size := by omega
    have : false ∈ listed.toList := by
     rw [List.mem_iff_getElem]
     exact ⟨j, by simpa using hlt, by simpa [Array.getD_eq_getD_getElem?, Array.getElem?_eq_getElem hlt] using hl⟩
    have := List.count_pos_iff.2 this
    omega
  refine ⟨?_, fin _ x w hall hG (fun j hj => hY j (hall j hj))⟩
  rw [List.eq_nil_iff_forall_not_mem]
  intro j hj
  rw [mem_ready] at hj
  obtain ⟨h0, o, ho, _⟩ := hj
  have hj' := (Array.getElem?_eq_some_iff.1 ho).1
  have := hall j hj'
  have hlt : j < listed.size := by omega
  simp [Array.getD_eq_getD_getElem?, Array.getElem?_eq_getElem hlt] at h0 this
  rw [h0] at this
  cases this
 | succ fuel ih =>
  intro listed x w hsz hc hcl hG hY
  refine ⟨fun hr => fin _ x w (all_listed hsz back hr) hG (fun j hj => hY j (all_listed hsz back hr j hj)), fun i hi => ?_⟩
  have hi' := hi
  rw [mem_ready] at hi'
  obtain ⟨h0, o, ho, hdep⟩ := hi'
  have hlt : i < listed.size := by have := (Array.getElem?_eq_some_iff.1 ho).1; omega
  have hfalse : listed[i] = false := by simpa [Array.getD_eq_getD_getElem?, Array.getElem?_eq_getElem hlt] using h0
  have hdeps : ∀ d, (o.after.toList.any fun e => Region.binds md e && e.on == d) = true → listed.getD d false = true := by
   intro j hj
   rw [List.any_eq_true] at hj
   obtain ⟨e, he, hb⟩ := hj
   simp only [Bool.and_eq_true, beq_iff_eq] at hb
   obtain ⟨hb1, rfl⟩ := hb
   exact hdep e (by simpa using he) hb1
  have hupd : (fun j => (listed.setIfInBounds i true).getD j false) = updL (fun j => listed.getD j false) i := by
   funext j
   unfold updL
   by_cases e : j = i
   ·
    subst e; simp [hlt]
   ·
    rw [if_neg e, getD_set_ne false (Ne.symm e)]
  have hs := step i o ho (fun j => listed.getD j false) x w (by simp [Array.getD_eq_getD_getElem?, Array.getElem?_eq_getElem hlt, hfalse]) hdeps hcl hG hY (wpAny P md ops Q fuel (listed.setIfInBounds i true)) (by
   intro v w' hy hG' hk
   have hd : (ops.toList.map (·.dst))[i]? = some o.dst := by simp [ho]
   rw [putL_upd hap hd, Nat.zero_add]
   refine ih _ _ _ (by simpa using hsz) ?_ ?_ ?_ ?_
   ·
    have hcs := List.count_set (a := true) (b := false) (l := listed.toList) (i := i) (by simpa using hlt)
    have hpos : 0 < listed.toList.count false := List.count_pos_iff.2 (by rw [← hfalse]; simp)
    rw [Array.toList_setIfInBounds, hcs, show listed.toList[i]'(by simpa using hlt) = false from by simpa using hfalse, if_pos (by rfl), if_neg (by decide)]
    omega
   ·
    rw [hupd]
    intro j oj hoj hLj d hd
    unfold updL at hLj ⊢
    by_cases e : d = i
    ·
     rw [if_pos e]
    ·
     rw [if_neg e]
     by_cases ej : j = i
     ·
      subst ej
      rw [ho] at hoj
      injection hoj with hoj
      subst hoj
      exact hdeps d hd
     ·
      rw [if_neg ej] at hLj
      exact hcl j oj hoj hLj d hd
   ·
    rw [hupd]; exact hG'
   ·
    intro j hj
    by_cases e : j = i
    ·
     subst e; rw [show upd x j v j = v from if_pos rfl]; exact hy
    ·
     rw [show upd x i v j = x j from if_neg e]
     rw [getD_set_ne false (Ne.symm e)] at hj
     exact hk j hj (hY j hj))
  unfold wpOp
  rw [ho]
  by_cases hw : Region.wanted o (yielded ops (putL (ops.toList.map (·.dst)) x 0 a).tmps) = true
  ·
   rw [if_pos hw] at hs
   simp only [hw, if_true]
   exact .inl hs
  ·
   rw [if_neg hw] at hs
   simp only [hw]
   exact hs

def ownAt (a : Act) : Option Tmp → Value
 | some d => a.tmps.getD d undef
 | none => undef
theorem put_own (a : Act) (d : Option Tmp) : a.put d (ownAt a d) = a := by
 cases d with
 | none => rfl
 | some d =>
  have : a.tmps.setIfInBounds d (a.tmps.getD d undef) = a.tmps := by
   apply Array.ext
   ·
    simp
   ·
    intro i h1 h2
    rw [Array.getElem_setIfInBounds]
    split
    ·
     rename_i h; subst h; simp [Array.getD_eq_getD_getElem?, Array.getElem?_eq_getElem h2]
    ·
     rfl
  simp only [Act.put, ownAt, this]
theorem putL_own {ds : List (Option Tmp)} {x : Nat → Value} {a : Act} : ∀ {k : Nat}, (∀ i d, ds[i]? = some d → x (k + i) = ownAt a d) → putL ds x k a = a := by
 induction ds with
 | nil => intro _ _; rfl
 | cons d ds ih =>
  intro k h
  show putL ds x (k + 1) (a.put d (x k)) = a
  rw [show x k = ownAt a d from h 0 d rfl, put_own]
  exact ih (fun i e he => by have := h (i + 1) e (by simpa using he); rwa [show k + (i + 1) = k + 1 + i by omega] at this)

def AllO (φ : Nat → Oper → Prop) : List Oper → Nat → Prop
 | [], _ => True
 | o :: r, k => φ k o ∧ AllO φ r (k + 1)
theorem AllO.at_ {φ : Nat → Oper → Prop} : ∀ {l : List Oper} {k : Nat}, AllO φ l k → ∀ (i : Nat) (o : Oper), l[i]? = some o → φ (k + i) o
 | [], _, _, i, o, h => by simp at h
 | _ :: _, _, h, 0, o, he => by
  simp only [List.getElem?_cons_zero, Option.some.injEq] at he
  subst he
  exact h.1
 | _ :: r, k, h, i + 1, o, he => by
  have := AllO.at_ h.2 i o (by simpa using he)
  rwa [show k + 1 + i = k + (i + 1) by omega] at this
theorem AllO.mono {φ ψ : Nat → Oper → Prop} : ∀ {l : List Oper} {k : Nat}, AllO φ l k → (∀ i o, φ i o → ψ i o) → AllO ψ l k
 | [], _, _, _ => trivial
 | _ :: _, _, h, hm => ⟨hm _ _ h.1, AllO.mono h.2 hm⟩

theorem wp_region_st {id : Nat} {w : World} {a : Act} (hm : P.follows .mixedOrders = true) (Y : Nat → Value → World → Prop) (G : (Nat → Bool) → World → Prop) (F : (Nat → Value) → Act) (hF : ∀ x, putL (ops.toList.map (·.dst)) x 0 a = F x)
  (hap : apartL (ops.toList.map (·.dst)) = true) (hback : (ops.toList.zipIdx.all fun p => p.1.after.all fun e => decide (e.on < p.2)) = true) (hG : G (fun _ => false) w.drew)
  (step : AllO (fun i o => ∀ (L : Nat → Bool) (x : Nat → Value) (w : World), L i = false → (∀ d, (o.after.toList.any fun e => Region.binds .any e && e.on == d) = true → L d = true) → Closed .any ops L → G L w → (∀ j, L j = true → Y j (x j) w) →
   ∀ K : Act → World → Prop, (∀ v w', Y i v w' → G (updL L i) w' → (∀ j, L j = true → Y j (x j) w → Y j (x j) w') → K ((F x).put o.dst v) w') →
    if Region.wanted o (yielded ops (F x).tmps) = true then Oper.wp P o (F x) w K Q else K ((F x).put o.dst undef) w) ops.toList 0)
  (fin : ∀ (L : Nat → Bool) (x : Nat → Value) (w : World), (∀ j, j < ops.size → L j = true) → G L w → (∀ j, j < ops.size → Y j (x j) w) → Q .normal (F x) w) : (Code.region id ops true).wp P Q a w := by
 refine wp_region_any hm ?_
 have hb : ∀ (i : Nat) (o : Oper), ops[i]? = some o → ∀ e ∈ o.after, e.on < i := by
  intro i o ho e he
  have hin : (o, i) ∈ ops.toList.zipIdx := by
   rw [List.mem_zipIdx_iff_getElem?]
   simpa using ho
  have := List.all_eq_true.1 hback _ hin
  have := Array.all_eq_true_iff_forall_mem.1 this e he
  simpa using this
 have h0 : (fun j => (Array.replicate ops.size false).getD j false) = fun _ => false := by
  funext j
  by_cases h : j < ops.size <;> simp [Array.getD_eq_getD_getElem?, h]
 have := wpAny_inv (P := P) (md := .any) (Q := Q) a Y G hap hb (fun i o ho L x w h1 h2 h3 h4 h5 K hK => by
   have hs := step.at_ i o (by simpa using ho)
   rw [Nat.zero_add] at hs
   rw [hF] at hK ⊢
   exact hs L x w h1 h2 h3 h4 h5 K hK) (fun L x w h1 h2 h3 => by rw [hF]; exact fin L x w h1 h2 h3) ops.size (Array.replicate ops.size false) (fun i => ownAt a (((ops.toList.map (·.dst))[i]?).getD none)) w.drew (by simp) (by simp)
   (by rw [h0]; intro j o _ h; cases h) (by rw [h0]; exact hG) (by
  intro j hj
  have := congrFun h0 j
  rw [this] at hj
  cases hj)
 rw [putL_own (fun i d hd => by rw [Nat.zero_add, hd]; rfl)] at this
 exact this

theorem wp_region_inv {id : Nat} {w : World} {a : Act} (hm : P.follows .mixedOrders = true) (R : World → Prop) (Y : Nat → Value → World → Prop) (F : (Nat → Value) → Act) (hF : ∀ x, putL (ops.toList.map (·.dst)) x 0 a = F x)
  (hap : apartL (ops.toList.map (·.dst)) = true) (hback : (ops.toList.zipIdx.all fun p => p.1.after.all fun e => decide (e.on < p.2)) = true) (hR : R w.drew)
  (step : AllO (fun i o => ∀ (x : Nat → Value) (w : World), R w → (∀ j, (o.after.toList.any fun e => Region.binds .any e && e.on == j) = true → Y j (x j) w) →
   ∀ K : Act → World → Prop, (∀ v w', Y i v w' → R w' → (∀ j u, Y j u w → Y j u w') → K ((F x).put o.dst v) w') →
    if Region.wanted o (yielded ops (F x).tmps) = true then Oper.wp P o (F x) w K Q else K ((F x).put o.dst undef) w) ops.toList 0)
  (fin : ∀ (x : Nat → Value) (w : World), R w → (∀ j, j < ops.size → Y j (x j) w) → Q .normal (F x) w) : (Code.region id ops true).wp P Q a w :=
 wp_region_st hm Y (fun _ w => R w) F hF hap hback hR (step.mono fun _ _ h _ x w _ hd _ hR hY K hK => h x w hR (fun j hj => hY j (hd j hj)) K fun v w' h1 h2 h3 => hK v w' h1 h2 fun j _ h => h3 j _ h) fun _ x w _ hR hY => fin x w hR hY
end
def SeqG (cs : List Nat) (St : Nat → World → Prop) (L : Nat → Bool) (W : World) : Prop := ∃ m, m ≤ cs.length ∧ St m W ∧ ∀ r, r < cs.length → L (cs.getD r 0) = decide (r < m)
theorem SeqG.start {cs : List Nat} {St : Nat → World → Prop} {W : World} (h : St 0 W) : SeqG cs St (fun _ => false) W := ⟨0, Nat.zero_le _, h, fun r _ => by simp⟩
theorem SeqG.same {cs : List Nat} {St : Nat → World → Prop} {L : Nat → Bool} {W W' : World} (h : SeqG cs St L W) (i : Nat) (hi : cs.contains i = false) (hS : ∀ m, St m W → St m W') : SeqG cs St (updL L i) W' := by
 obtain ⟨m, hm, hs, hr⟩ := h
 refine ⟨m, hm, hS m hs, fun r hrl => ?_⟩
 have hne : cs.getD r 0 ≠ i := by
  intro e
  have hmem : i ∈ cs := by
   rw [← e, List.getD_eq_getElem?_getD, List.getElem?_eq_getElem hrl]
   exact List.getElem_mem hrl
  rw [List.contains_eq_mem, decide_eq_false_iff_not] at hi
  exact hi hmem
 rw [show updL L i (cs.getD r 0) = L (cs.getD r 0) from if_neg hne, hr r hrl]
theorem SeqG.at_ {cs : List Nat} {St : Nat → World → Prop} {L : Nat → Bool} {W : World} (h : SeqG cs St L W) (q : Nat) (hq : q < cs.length) (hL : L (cs.getD q 0) = false) (hp : q = 0 ∨ L (cs.getD (q - 1) 0) = true) : St q W := by
 obtain ⟨m, hm, hs, hr⟩ := h
 have h1 : ¬ q < m := by have := hr q hq; rw [hL] at this; simpa using this.symm
 have h2 : m = q := by
  rcases hp with rfl | hp
  ·
   omega
  ·
   have := hr (q - 1) (by omega)
   rw [hp] at this
   have : q - 1 < m := by simpa using this.symm
   omega
 rw [← h2]
 exact hs
theorem SeqG.next {cs : List Nat} {St : Nat → World → Prop} {L : Nat → Bool} {W W' : World} (h : SeqG cs St L W) (q i : Nat) (hq : q < cs.length) (hi : cs.getD q 0 = i) (hL : L i = false) (hp : q = 0 ∨ L (cs.getD (q - 1) 0) = true)
  (hnd : (List.range cs.length).all (fun r => r == q || cs.getD r 0 != i) = true) (hS : St (q + 1) W') : SeqG cs St (updL L i) W' := by
 obtain ⟨m, hm, hs, hr⟩ := h
 have h1 : ¬ q < m := by have := hr q hq; rw [hi, hL] at this; simpa using this.symm
 have h2 : m = q := by
  rcases hp with rfl | hp
  ·
   omega
  ·
   have := hr (q - 1) (by omega)
   rw [hp] at this
   have : q - 1 < m := by simpa using this.symm
   omega
 subst h2
 refine ⟨m + 1, by omega, hS, fun r hrl => ?_⟩
 have h3 := List.all_eq_true.1 hnd r (List.mem_range.2 hrl)
 by_cases e : r = m
 ·
  subst e
  rw [hi, show updL L i i = true from if_pos rfl]
  simp
 ·
  have hne : cs.getD r 0 ≠ i := by
   have e1 : (r == m) = false := by simpa using e
   rw [e1, Bool.false_or, bne_iff_ne] at h3
   exact h3
  rw [show updL L i (cs.getD r 0) = L (cs.getD r 0) from if_neg hne, hr r hrl]
  have : (r < m) ↔ (r < m + 1) := by omega
  simp [this]
end Go.Proofs.YthlgmkfofebbfaaGreatDoor


namespace Go.Proofs.YthlgmkfofebbfaaGreatDoor
open Go.RowKit

section
variable {P : Program} {ops : Array Oper} {Q : Exit → Act → World → Prop} {md : Region.Mode}

theorem all_listed2 {listed : Array Bool} (hsz : listed.size = ops.size) (back : ∀ (i : Nat) (o : Oper), ops[i]? = some o → ∀ e ∈ o.after, Region.binds md e = true → e.on < i) (h : Region.ready md ops listed = []) :
  ∀ j, j < ops.size → listed.getD j false = true := by
 intro j
 induction j using Nat.strongRecOn with
 | _ j ih =>
  intro hj
  cases hl : listed.getD j false with
  | true => rfl
  | false =>
   exfalso
   have hm : j ∈ Region.ready md ops listed := by
    rw [mem_ready]
    refine ⟨?_, ops[j], Array.getElem?_eq_getElem hj, fun e he hb => ih e.on (back j _ (Array.getElem?_eq_getElem hj) e he hb) (Nat.lt_trans (back j _ (Array.getElem?_eq_getElem hj) e he hb) hj)⟩
    have hlt : j < listed.size := by omega
    simpa [Array.getD_eq_getD_getElem?, Array.getElem?_eq_getElem hlt] using hl
   rw [h] at hm
   cases hm

theorem wpAny_gen (a : Act) (I : (Nat → Bool) → (Nat → Value) → World → Prop) (hap : apartL (ops.toList.map (·.dst)) = true)
  (back : ∀ (i : Nat) (o : Oper), ops[i]? = some o → ∀ e ∈ o.after, Region.binds md e = true → e.on < i)
  (step : ∀ (i : Nat) (o : Oper), ops[i]? = some o → ∀ (L : Nat → Bool) (x : Nat → Value) (w : World), L i = false → (∀ d, (o.after.toList.any fun e => Region.binds md e && e.on == d) = true → L d = true) → I L x w →
   ∀ K : Act → World → Prop, (∀ v w', I (updL L i) (upd x i v) w' → K ((putL (ops.toList.map (·.dst)) x 0 a).put o.dst v) w') →
    if Region.wanted o (yielded ops (putL (ops.toList.map (·.dst)) x 0 a).tmps) = true then Oper.wp P o (putL (ops.toList.map (·.dst)) x 0 a) w K Q else K ((putL (ops.toList.map (·.dst)) x 0 a).put o.dst undef) w)
  (fin : ∀ (L : Nat → Bool) (x : Nat → Value) (w : World), (∀ j, j < ops.size → L j = true) → I L x w → Q .normal (putL (ops.toList.map (·.dst)) x 0 a) w) :
  ∀ (fuel : Nat) (listed : Array Bool) (x : Nat → Value) (w : World), listed.size = ops.size → listed.toList.count false ≤ fuel → I (fun j => listed.getD j false) x w →
   wpAny P md ops Q fuel listed (putL (ops.toList.map (·.dst)) x 0 a) w := by
 intro fuel
 induction fuel with
 | zero =>
  intro listed x w hsz hc hI
  have hall : ∀ j, j < ops.size → listed.getD j false = true := by
   intro j hj
   cases hl : listed.getD j false with
   | true => rfl
   | false =>
    exfalso
    have hlt : j < listed.size := by omega
    have : false ∈ listed.toList := by
     rw [List.mem_iff_getElem]
     exact ⟨j, by simpa using hlt, by simpa [Array.getD_eq_getD_getElem?, Array.getElem?_eq_getElem hlt] using hl⟩
    have := List.count_pos_iff.2 this
    omega
  refine ⟨?_, fin _ x w hall hI⟩
  rw [List.eq_nil_iff_forall_not_mem]
  intro j hj
  rw [mem_ready] at hj
  obtain ⟨h0, o, ho, _⟩ := hj
  have hj' := (Array.getElem?_eq_some_iff.1 ho).1
  have := hall j hj'
  have hlt : j < listed.size := by omega
  simp [Array.getD_eq_getD_getElem?, Array.getElem?_eq_getElem hlt] at h0 this
  rw [h0] at this
  cases this
 | succ fuel ih =>
  intro listed x w hsz hc hI
  refine ⟨fun hr => fin _ x w (all_listed2 hsz back hr) hI, fun i hi => ?_⟩
  have hi' := hi
  rw [mem_ready] at hi'
  obtain ⟨h0, o, ho, hdep⟩ := hi'
  have hlt : i < listed.size := by have := (Array.getElem?_eq_some_iff.1 ho).1; omega
  have hfalse : listed[i] = false := by simpa [Array.getD_eq_getD_getElem?, Array.getElem?_eq_getElem hlt] using h0
  have hdeps : ∀ d, (o.after.toList.any fun e => Region.binds md e && e.on == d) = true → listed.getD d false = true := by
   intro j hj
   rw [List.any_eq_true] at hj
   obtain ⟨e, he, hb⟩ := hj
   simp only [Bool.and_eq_true, beq_iff_eq] at hb
   obtain ⟨hb1, rfl⟩ := hb
   exact hdep e (by simpa using he) hb1
  have hupd : (fun j => (listed.setIfInBounds i true).getD j false) = updL (fun j => listed.getD j false) i := by
   funext j
   unfold updL
   by_cases e : j = i
   ·
    subst e; simp [hlt]
   ·
    rw [if_neg e, getD_set_ne false (Ne.symm e)]
  have hs := step i o ho (fun j => listed.getD j false) x w (by simp [Array.getD_eq_getD_getElem?, Array.getElem?_eq_getElem hlt, hfalse]) hdeps hI (wpAny P md ops Q fuel (listed.setIfInBounds i true)) (by
   intro v w' hI'
   have hd : (ops.toList.map (·.dst))[i]? = some o.dst := by simp [ho]
   rw [putL_upd hap hd, Nat.zero_add]
   refine ih _ _ _ (by simpa using hsz) ?_ ?_
   ·
    have hcs := List.count_set (a := true) (b := false) (l := listed.toList) (i := i) (by simpa using hlt)
    have hpos : 0 < listed.toList.count false := List.count_pos_iff.2 (by rw [← hfalse]; simp)
    rw [Array.toList_setIfInBounds, hcs, show listed.toList[i]'(by simpa using hlt) = false from by simpa using hfalse, if_pos (by rfl), if_neg (by decide)]
    omega
   ·
    rw [hupd]; exact hI')
  unfold wpOp
  rw [ho]
  by_cases hw : Region.wanted o (yielded ops (putL (ops.toList.map (·.dst)) x 0 a).tmps) = true
  ·
   rw [if_pos hw] at hs
   simp only [hw, if_true]
   exact .inl hs
  ·
   rw [if_neg hw] at hs
   simp only [hw]
   exact hs

theorem wp_region_gen {id : Nat} {w : World} {a : Act} (hm : P.follows .mixedOrders = true) (I : (Nat → Bool) → (Nat → Value) → World → Prop) (F : (Nat → Value) → Act) (hF : ∀ x, putL (ops.toList.map (·.dst)) x 0 a = F x)
  (hap : apartL (ops.toList.map (·.dst)) = true) (hback : (ops.toList.zipIdx.all fun p => p.1.after.all fun e => !(Region.binds .any e) || decide (e.on < p.2)) = true) (hI : ∀ x, I (fun _ => false) x w.drew)
  (step : AllO (fun i o => ∀ (L : Nat → Bool) (x : Nat → Value) (w : World), L i = false → (∀ d, (o.after.toList.any fun e => Region.binds .any e && e.on == d) = true → L d = true) → I L x w →
   ∀ K : Act → World → Prop, (∀ v w', I (updL L i) (upd x i v) w' → K ((F x).put o.dst v) w') →
    if Region.wanted o (yielded ops (F x).tmps) = true then Oper.wp P o (F x) w K Q else K ((F x).put o.dst undef) w) ops.toList 0)
  (fin : ∀ (L : Nat → Bool) (x : Nat → Value) (w : World), (∀ j, j < ops.size → L j = true) → I L x w → Q .normal (F x) w) : (Code.region id ops true).wp P Q a w := by
 refine wp_region_any hm ?_
 have hb : ∀ (i : Nat) (o : Oper), ops[i]? = some o → ∀ e ∈ o.after, Region.binds .any e = true → e.on < i := by
  intro i o ho e he hbd
  have hin : (o, i) ∈ ops.toList.zipIdx := by
   rw [List.mem_zipIdx_iff_getElem?]
   simpa using ho
  have := List.all_eq_true.1 hback _ hin
  have := Array.all_eq_true_iff_forall_mem.1 this e he
  rw [hbd] at this
  simpa using this
 have h0 : (fun j => (Array.replicate ops.size false).getD j false) = fun _ => false := by
  funext j
  by_cases h : j < ops.size <;> simp [Array.getD_eq_getD_getElem?, h]
 have := wpAny_gen (P := P) (md := .any) (Q := Q) a I hap hb (fun i o ho L x w h1 h2 h3 K hK => by
   have hs := step.at_ i o (by simpa using ho)
   rw [Nat.zero_add] at hs
   rw [hF] at hK ⊢
   exact hs L x w h1 h2 h3 K hK) (fun L x w h1 h2 => by rw [hF]; exact fin L x w h1 h2) ops.size (Array.replicate ops.size false) (fun i => ownAt a (((ops.toList.map (·.dst))[i]?).getD none)) w.drew (by simp) (by simp)
   (by rw [h0]; exact hI _)
 rw [putL_own (fun i d hd => by rw [Nat.zero_add, hd]; rfl)] at this
 exact this

end
end Go.Proofs.YthlgmkfofebbfaaGreatDoor


namespace Go.Proofs.YthlgmkfofebbfaaGreatDoor
open Go.RowKit Go.Maps

theorem SeqG.move9 {cs : List Nat} {St St' : Nat → World → Prop} {L : Nat → Bool} {W W' : World} (h : SeqG cs St L W) (q i : Nat) (hq : q < cs.length) (hi : cs.getD q 0 = i) (hL : L i = false) (hp : q = 0 ∨ L (cs.getD (q - 1) 0) = true)
  (hnd : (List.range cs.length).all (fun r => r == q || cs.getD r 0 != i) = true) (hS : St' (q + 1) W') : SeqG cs St' (updL L i) W' := by
 obtain ⟨m, hm, hs, hr⟩ := h
 have h1 : ¬ q < m := by have := hr q hq; rw [hi, hL] at this; simpa using this.symm
 have h2 : m = q := by
  rcases hp with rfl | hp
  ·
   omega
  ·
   have := hr (q - 1) (by omega)
   rw [hp] at this
   have : q - 1 < m := by simpa using this.symm
   omega
 subst h2
 have hX : SeqG cs (fun k V => k = m + 1 → St' k V) L W' := ⟨m, hm, fun e => absurd e (by omega), hr⟩
 obtain ⟨k, hk, hs', hr'⟩ := hX.next m i hq hi hL hp hnd (fun _ => hS)
 have hkm : k = m + 1 := by
  have e1 := hr' m hq
  rw [hi, show updL L i i = true from if_pos rfl] at e1
  have e1' : m < k := by simpa using e1.symm
  by_cases hlt : m + 1 < cs.length
  ·
   have h3 := List.all_eq_true.1 hnd (m + 1) (List.mem_range.2 hlt)
   have e2 := hr' (m + 1) hlt
   have hne : cs.getD (m + 1) 0 ≠ i := by
    have e1 : ((m + 1) == m) = false := by simp
    rw [e1, Bool.false_or, bne_iff_ne] at h3
    exact h3
   rw [show updL L i (cs.getD (m + 1) 0) = L (cs.getD (m + 1) 0) from if_neg hne, hr (m + 1) hlt] at e2
   have : ¬ m + 1 < k := by
    have e3 : decide (m + 1 < m) = false := by simp
    rw [e3] at e2
    simpa using e2.symm
   omega
  ·
   omega
 subst hkm
 exact ⟨m + 1, hk, hs' rfl, hr'⟩
theorem SeqG.done9 {cs : List Nat} {St : Nat → World → Prop} {L : Nat → Bool} {W : World} (h : SeqG cs St L W) (hall : ∀ r, r < cs.length → L (cs.getD r 0) = true) : St cs.length W := by
 obtain ⟨m, hm, hs, hr⟩ := h
 by_cases e : m = cs.length
 ·
  rw [← e]; exact hs
 ·
  have h1 := hr m (by omega)
  rw [hall m (by omega)] at h1
  simp at h1

set_option maxRecDepth 100000 in
theorem drop9_calls (B : Nat) (p q : Option Nat) (L M : Row7) (s : ByteArray) (w : World) (h : Idx9 w B p q L M) (hs : s.size ≤ maxLen) :
  Calls Tryz.prog 77 #[.pointer (some ⟨B, 0, none⟩), .string s] w fun e w' => e = .returned (.bool (hasE L s.data.toList)) ∧ (∃ M', Idx9 w' B p q (delE L s.data.toList) M') ∧ Turn9 B p q w w' := by
 have hl := look9 h.mapp s hs
 have c0 := h.cell0
 cases hh : hasE L s.data.toList with
 | false =>
  rw [hh] at hl
  have HF : Hid ((∃ M', Idx9 w B p q (delE L s.data.toList) M') ∧ Turn9 B p q w w) := ⟨⟨M, by rw [del_of_not hh]; exact h⟩, Turns.refl _ w⟩
  clear h
  generalize tx7 (getE L s.data.toList) = g at *
  go_enter Tryz.func77, Tryz.ntmps77
  go_wp2
  go_ret
  exact ⟨rfl, HF.out⟩
 | true =>
  rw [hh] at hl
  have hmem := hasE_mem hh
  have hmay := h.all _ hmem
  have hgs : (tx7 (getE L s.data.toList)).size ≤ maxLen := by
   show (getE L s.data.toList).toArray.size ≤ _
   rw [List.size_toArray]; exact Nat.le_trans (mail5_len hmay.2.1) (by decide)
  obtain ⟨w1, r1, m1, t1⟩ := drop9 h.mapp s hs 0
  have hB1 : w1.heap[B]? = _ := (t1.block B h.lt (fun e => h.pne _ e rfl)).trans h.blk
  have c1 : w1.cell? ⟨B, 1, none⟩ = some (.map q) := by simp [World.cell?, hB1]
  have q1 : MapOr9 w1 q M := h.mapq.turns t1 (fun b hb e => h.apt b b e hb rfl)
  obtain ⟨w2, r2, m2, t2⟩ := drop9 q1 (tx7 (getE L s.data.toList)) hgs 0
  have ht : Turn9 B p q w w2 := (t1.mono (fun i _ e => .inr (.inl e))).next t2 (fun i _ e => .inr (.inr e))
  have HF : Hid ((∃ M', Idx9 w2 B p q (delE L s.data.toList) M') ∧ Turn9 B p q w w2) := by
   rw [tx7_list] at m2
   refine ⟨⟨_, ⟨(t2.block B (Nat.lt_of_lt_of_le h.lt t1.size) (fun e => h.qne _ e rfl)).trans hB1, m1.turns t2 (fun b hb e => h.apt b b hb e rfl), m2, h.both, h.apt, h.mir.del hh, ?_, fun x hx => h.all x (mem_del.1 hx).1⟩⟩, ht⟩
   exact Nat.le_trans (List.length_filter_le _ _) h.few
  clear h hB1 q1 m1 m2 t1 t2 ht hmem hmay hgs
  generalize tx7 (getE L s.data.toList) = g at *
  go_enter Tryz.func77, Tryz.ntmps77
  go_wp2
  go_ret
  exact ⟨rfl, HF.out⟩

def YPut9 (B b c : Nat) (n a : ByteArray) : Nat → Value → Prop
 | 2, v => v = .pointer (some ⟨B, 0, none⟩)
 | 3, v => v = .map (some b)
 | 4, v => v = .string n
 | 7, v => v = .pointer (some ⟨B, 1, none⟩)
 | 8, v => v = .map (some c)
 | 9, v => v = .string a
 | 10, v => v = .string a
 | 11, v => v = .string n
 | _, v => v = .pointer (some ⟨B, 0, none⟩)
def StPut9 (b c : Nat) (L M L' M' : Row7) (n a : ByteArray) (x12 x15 : Value) : Nat → World → Prop
 | 0, W => Map7 W b L ∧ Map7 W c M
 | 1, W => (∃ (v0 : Value) (st : Nat), x12 = .tuple #[v0, .int .i64 (st : Int)] ∧ Half9 W b L' (.int .i64 (st : Int)) (.string a)) ∧ Map7 W c M
 | 2, W => Map7 W b L' ∧ Map7 W c M
 | 3, W => Map7 W b L' ∧ ∃ (v0 : Value) (st : Nat), x15 = .tuple #[v0, .int .i64 (st : Int)] ∧ Half9 W c M' (.int .i64 (st : Int)) (.string n)
 | _, W => Map7 W b L' ∧ Map7 W c M'
structure Put9 (w1 : World) (B b c : Nat) (L M L' M' : Row7) (n a : ByteArray) (D : Nat → Bool) (x : Nat → Value) (W : World) : Prop where
 y : ∀ j, j < 12 → D j = true → YPut9 B b c n a j (x j)
 e12 : D 12 = true → ∃ (v0 : Value) (st : Nat), x 12 = .tuple #[v0, .int .i64 (st : Int)]
 e15 : D 15 = true → ∃ (v0 : Value) (st : Nat), x 15 = .tuple #[v0, .int .i64 (st : Int)]
 e13 : D 13 = true → D 12 = true ∧ ∃ v0, x 12 = .tuple #[v0, x 13]
 e16 : D 16 = true → D 15 = true ∧ ∃ v0, x 15 = .tuple #[v0, x 16]
 t : Turns (fun i => i = b ∨ i = c) w1 W
 s : SeqG [12, 14, 15, 17] (StPut9 b c L M L' M' n a (x 12) (x 15)) D W

section
variable {w1 : World} {B b c : Nat} {L M L' M' : Row7} {n a : ByteArray} {D : Nat → Bool} {x : Nat → Value} {W W' : World}
theorem Put9.start (x : Nat → Value) (hb : Map7 w1 b L) (hc : Map7 w1 c M) : Put9 w1 B b c L M L' M' n a (fun _ => false) x w1.drew :=
 ⟨(fun _ _ h => nomatch h), (fun h => nomatch h), (fun h => nomatch h), (fun h => nomatch h), (fun h => nomatch h), (Turns.refl _ w1).drew, SeqG.start ⟨hb, hc⟩⟩
theorem Put9.quiet (h : Put9 w1 B b c L M L' M' n a D x W) (i : Nat) (v : Value) (hi : [12, 14, 15, 17].contains i = false) (hy : i < 12 → YPut9 B b c n a i v)
  (h13 : i = 13 → D 12 = true ∧ ∃ v0, x 12 = .tuple #[v0, v]) (h16 : i = 16 → D 15 = true ∧ ∃ v0, x 15 = .tuple #[v0, v]) : Put9 w1 B b c L M L' M' n a (updL D i) (upd x i v) W := by
 have n12 : 12 ≠ i := fun e => by subst e; simp at hi
 have n15 : 15 ≠ i := fun e => by subst e; simp at hi
 have u12 : upd x i v 12 = x 12 := if_neg n12
 have u15 : upd x i v 15 = x 15 := if_neg n15
 have d12 : updL D i 12 = D 12 := if_neg n12
 have d15 : updL D i 15 = D 15 := if_neg n15
 refine ⟨fun j hj hd => ?_, fun hd => ?_, fun hd => ?_, fun hd => ?_, fun hd => ?_, h.t, ?_⟩
 ·
  by_cases e : j = i
  ·
   subst e; rw [show upd x j v j = v from if_pos rfl]; exact hy hj
  ·
   rw [show upd x i v j = x j from if_neg e]; rw [show updL D i j = D j from if_neg e] at hd; exact h.y j hj hd
 ·
  rw [u12]; rw [d12] at hd; exact h.e12 hd
 ·
  rw [u15]; rw [d15] at hd; exact h.e15 hd
 ·
  rw [u12, d12]
  by_cases e : 13 = i
  ·
   subst e; rw [show upd x 13 v 13 = v from if_pos rfl]; exact h13 rfl
  ·
   rw [show upd x i v 13 = x 13 from if_neg e]; rw [show updL D i 13 = D 13 from if_neg e] at hd; exact h.e13 hd
 ·
  rw [u15, d15]
  by_cases e : 16 = i
  ·
   subst e; rw [show upd x 16 v 16 = v from if_pos rfl]; exact h16 rfl
  ·
   rw [show upd x i v 16 = x 16 from if_neg e]; rw [show updL D i 16 = D 16 from if_neg e] at hd; exact h.e16 hd
 ·
  rw [u12, u15]; exact h.s.same i hi (fun _ h => h)
theorem turned9 {W W' : World} {b i : Nat} (ht : W.mapTurned W' b) (hne : i ≠ b) : W'.heap[i]? = W.heap[i]? := turned_cells ht (fun e => hne e.symm)
theorem Put9.turn (h : Put9 w1 B b c L M L' M' n a D x W) {k : Nat} (hk : k = b ∨ k = c) (ht : W.mapTurned W' k) : Turns (fun i => i = b ∨ i = c) w1 W' :=
 h.t.grown ht.grown (fun j hj _ => by cases hj; exact hk)
theorem Put9.y2 (h : Put9 w1 B b c L M L' M' n a D x W) (i : Nat) (v : Value) (hi : ¬ i < 12) : ∀ j, j < 12 → updL D i j = true → YPut9 B b c n a j (upd x i v j) := fun j hj hd => by
 have e : j ≠ i := fun e => hi (e ▸ hj)
 rw [show upd x i v j = x j from if_neg e]; rw [show updL D i j = D j from if_neg e] at hd; exact h.y j hj hd
theorem Put9.at12 (h : Put9 w1 B b c L M L' M' n a D x W) (hD : D 12 = false) {v0 : Value} {st : Nat} (hH : Half9 W' b L' (.int .i64 (st : Int)) (.string a)) (ht : W.mapTurned W' b) (hbc : b ≠ c) :
  Put9 w1 B b c L M L' M' n a (updL D 12) (upd x 12 (.tuple #[v0, .int .i64 (st : Int)])) W' := by
 have u12 : upd x 12 (.tuple #[v0, .int .i64 (st : Int)]) 12 = .tuple #[v0, .int .i64 (st : Int)] := if_pos rfl
 have hs := h.s.at_ 0 (by decide) hD (.inl rfl)
 refine ⟨h.y2 12 _ (by decide), fun _ => ⟨v0, st, u12⟩, fun hd => h.e15 hd, fun hd => ?_, fun hd => h.e16 hd, h.turn (.inl rfl) ht, ?_⟩
 ·
  have := (h.e13 hd).1
  rw [hD] at this; cases this
 ·
  refine h.s.move9 0 12 (by decide) rfl hD (.inl rfl) (by decide) ⟨⟨v0, st, u12, hH⟩, hs.2.kept (turned9 ht hbc.symm)⟩
theorem Put9.at14 (h : Put9 w1 B b c L M L' M' n a D x W) (hD : D 14 = false) (h12 : D 12 = true) {v : Value} (hm : Map7 W' b L') (ht : W.mapTurned W' b) (hbc : b ≠ c) :
  Put9 w1 B b c L M L' M' n a (updL D 14) (upd x 14 v) W' := by
 have hs := h.s.at_ 1 (by decide) hD (.inr h12)
 refine ⟨h.y2 14 _ (by decide), fun hd => h.e12 hd, fun hd => h.e15 hd, fun hd => h.e13 hd, fun hd => h.e16 hd, h.turn (.inl rfl) ht, ?_⟩
 exact h.s.move9 1 14 (by decide) rfl hD (.inr h12) (by decide) ⟨hm, hs.2.kept (turned9 ht hbc.symm)⟩
theorem Put9.at15 (h : Put9 w1 B b c L M L' M' n a D x W) (hD : D 15 = false) (h14 : D 14 = true) {v0 : Value} {st : Nat} (hH : Half9 W' c M' (.int .i64 (st : Int)) (.string n)) (ht : W.mapTurned W' c) (hbc : b ≠ c) :
  Put9 w1 B b c L M L' M' n a (updL D 15) (upd x 15 (.tuple #[v0, .int .i64 (st : Int)])) W' := by
 have u15 : upd x 15 (.tuple #[v0, .int .i64 (st : Int)]) 15 = .tuple #[v0, .int .i64 (st : Int)] := if_pos rfl
 have hs := h.s.at_ 2 (by decide) hD (.inr h14)
 refine ⟨h.y2 15 _ (by decide), fun hd => h.e12 hd, fun _ => ⟨v0, st, u15⟩, fun hd => h.e13 hd, fun hd => ?_, h.turn (.inr rfl) ht, ?_⟩
 ·
  have := (h.e16 hd).1
  rw [hD] at this; cases this
 ·
  exact h.s.move9 2 15 (by decide) rfl hD (.inr h14) (by decide) ⟨hs.1.kept (turned9 ht hbc), ⟨v0, st, u15, hH⟩⟩
theorem Put9.at17 (h : Put9 w1 B b c L M L' M' n a D x W) (hD : D 17 = false) (h15 : D 15 = true) {v : Value} (hm : Map7 W' c M') (ht : W.mapTurned W' c) (hbc : b ≠ c) :
  Put9 w1 B b c L M L' M' n a (updL D 17) (upd x 17 v) W' := by
 have hs := h.s.at_ 3 (by decide) hD (.inr h15)
 refine ⟨h.y2 17 _ (by decide), fun hd => h.e12 hd, fun hd => h.e15 hd, fun hd => h.e13 hd, fun hd => h.e16 hd, h.turn (.inr rfl) ht, ?_⟩
 exact h.s.move9 3 17 (by decide) rfl hD (.inr h15) (by decide) ⟨hs.1.kept (turned9 ht hbc), hm⟩
end

theorem blk_set0 {W : World} {B : Nat} {u v : Value} {T : TypeId} (v' : Value) (h : W.heap[B]? = some (.cells #[u, v] T (0, 0))) : (W.setCell ⟨B, 0, none⟩ v').heap[B]? = some (.cells #[v', v] T (0, 0)) := by
 obtain ⟨hlt, hk⟩ := Array.getElem?_eq_some_iff.1 h
 show (W.heap.modify B _)[B]? = _
 rw [Array.getElem?_eq_getElem (by rw [Array.size_modify]; exact hlt), Array.getElem_modify_self, hk]
 rfl
theorem blk_set1 {W : World} {B : Nat} {u v : Value} {T : TypeId} (v' : Value) (h : W.heap[B]? = some (.cells #[u, v] T (0, 0))) : (W.setCell ⟨B, 1, none⟩ v').heap[B]? = some (.cells #[u, v'] T (0, 0)) := by
 obtain ⟨hlt, hk⟩ := Array.getElem?_eq_some_iff.1 h
 show (W.heap.modify B _)[B]? = _
 rw [Array.getElem?_eq_getElem (by rw [Array.size_modify]; exact hlt), Array.getElem_modify_self, hk]
 rfl

set_option maxRecDepth 100000 in
set_option maxHeartbeats 4000000 in
theorem put9_calls (B : Nat) (p q : Option Nat) (L M : Row7) (n a : ByteArray) (w : World) (h : Idx9 w B p q L M) (hm : May9 (n.data.toList, a.data.toList)) (hfree : hasO (delE L n.data.toList) a.data.toList = false) (hf : (putE L n.data.toList a.data.toList).length ≤ 100) :
  Calls Tryz.prog 132 #[.pointer (some ⟨B, 0, none⟩), .string n, .string a] w fun e w' => e = .returned (.tuple #[]) ∧ Goes9 w B p q (putE L n.data.toList a.data.toList) w' := by
 have hn' : n.size ≤ maxLen := by have := name5_len hm.1; rw [size_list] at this; exact Nat.le_trans this (by decide)
 have ha' : a.size ≤ maxLen := by have := mail5_len hm.2.1; rw [size_list] at this; exact Nat.le_trans this (by decide)
 have HD := Lib.hid (drop9_calls B p q L M n w h hn')
 have hall : ∀ y ∈ putE L n.data.toList a.data.toList, May9 y := fun y hy => by
  rcases mem_putE.1 hy with rfl | ⟨hy, _⟩
  ·
   exact hm
  ·
   exact h.all y hy
 have hpd := put_del h.rise n.data.toList a.data.toList
 have HPD : Hid (putE (delE L n.data.toList) n.data.toList a.data.toList = putE L n.data.toList a.data.toList) := hpd
 have HF : Hid ((delE L n.data.toList).length ≤ 1000) := Nat.le_trans (List.length_filter_le _ _) (Nat.le_trans h.few (by decide))
 have HALL := Lib.hid hall
 have HLN := Lib.hid hf
 have hlt0 := h.lt
 have hlp := h.plt
 have hlq := h.qlt
 clear h hm hall hpd hf
 go_enter Tryz.func132, Tryz.ntmps132
 go_wp2_with fail
 with_reducible refine HD.out.mono ?_
 rintro e w1 ⟨rfl, ⟨M1, hi⟩, ht⟩
 have HI := Lib.hid hi
 have HT := Lib.hid ht
 have hfr : hasO (delE L n.data.toList) a.data.toList = false := hfree
 have hmir := hi.mir.put (hasE_del L n.data.toList) hfr
 rw [HPD.out] at hmir
 have HMIR := Lib.hid hmir
 have HG : Hid (M1.length ≤ 1000) := by show _ ≤ _; rw [hi.mir.length]; exact HF.out
 have hq := nilmap9 w1 p
 have hc0 := hi.cell0
 clear ht hmir hfr HD
 cases p with
 | none =>
  have hqn : q = none := by
   have := hi.both
   cases q with
   | none => rfl
   | some c => cases this
  subst hqn
  have hL1 := hi.mapp.nil rfl
  have hM1 := hi.mapq.nil rfl
  have f0 := hi.frozen0
  have f1 := hi.frozen1
  have hc1 := hi.cell1
  have hblk := hi.blk
  have hblt := hi.lt
  have hmm := @run_makeMap Tryz.prog
  have hs0 : ((w1.setCell ⟨B, 0, none⟩ (.map (some w1.heap.size))).setCell ⟨B, 1, none⟩ (.map (some (w1.heap.size + 1)))).heap.size = w1.heap.size := by simp [World.setCell]
  have hb0 := blk_set1 (.map (some (w1.heap.size + 1))) (blk_set0 (.map (some w1.heap.size)) hblk)
  have hb2 : (((w1.setCell ⟨B, 0, none⟩ (.map (some w1.heap.size))).setCell ⟨B, 1, none⟩ (.map (some (w1.heap.size + 1)))).alloc (.map #[] 0)).heap[B]? = _ := (Below.heap_alloc _ _ B (by omega)).trans hb0
  have hb3 : ((((w1.setCell ⟨B, 0, none⟩ (.map (some w1.heap.size))).setCell ⟨B, 1, none⟩ (.map (some (w1.heap.size + 1)))).alloc (.map #[] 0)).alloc (.map #[] 0)).heap[B]? = _ := (Below.heap_alloc _ _ B (by simp; omega)).trans hb2
  have m1 := World.ownsMap_made (H := Unit) ((w1.setCell ⟨B, 0, none⟩ (.map (some w1.heap.size))).setCell ⟨B, 1, none⟩ (.map (some (w1.heap.size + 1)))) Tryz.prog 9 (plainElem Tryz.prog 9)
  have m2 := World.ownsMap_made (H := Unit) (((w1.setCell ⟨B, 0, none⟩ (.map (some w1.heap.size))).setCell ⟨B, 1, none⟩ (.map (some (w1.heap.size + 1)))).alloc (.map #[] 0)) Tryz.prog 9 (plainElem Tryz.prog 9)
  have m1' := m1.alloc (.map #[] 0)
  rw [hs0] at m1'
  rw [World.size_alloc, hs0] at m2
  have e0 : (.map [] : DataW Unit) = datE [] := rfl
  rw [e0] at m1' m2
  have hT2 : Turns (fun i => i = B) w1 ((((w1.setCell ⟨B, 0, none⟩ (.map (some w1.heap.size))).setCell ⟨B, 1, none⟩ (.map (some (w1.heap.size + 1)))).alloc (.map #[] 0)).alloc (.map #[] 0)) := ((((Turns.refl (fun i => i = B) w1).setCell (p := ⟨B, 0, none⟩) (fun _ => rfl) _).setCell (p := ⟨B, 1, none⟩) (fun _ => rfl) _).alloc _).alloc _
  have hB1 := Map7.of (L := []) m1'
  rw [← hL1] at hB1
  have hB2 := Map7.of (L := []) m2
  rw [← hM1] at hB2
  have HB1 := Lib.hid hB1
  have HB2 := Lib.hid hB2
  clear hB1 hB2
  have hz : ((((w1.setCell ⟨B, 0, none⟩ (.map (some w1.heap.size))).setCell ⟨B, 1, none⟩ (.map (some (w1.heap.size + 1)))).alloc (.map #[] 0)).alloc (.map #[] 0)).heap.size = w1.heap.size + 2 := by rw [World.size_alloc, World.size_alloc, hs0]
  clear m1 m2 m1' e0 hb2 hb0 hs0 hi hlp hlq
  go_wp2
  clear hc0 hc1 hq f0 f1 hmm hblk
  generalize ((((w1.setCell ⟨B, 0, none⟩ (.map (some w1.heap.size))).setCell ⟨B, 1, none⟩ (.map (some (w1.heap.size + 1)))).alloc (.map #[] 0)).alloc (.map #[] 0)) = w2 at *
  have hsz := HT.out.size
  generalize hc : w1.heap.size + 1 = c at *
  generalize hb : w1.heap.size = b at *
  have hbc : b ≠ c := by omega
  have HBL : Hid (B < w2.heap.size) := by show _ < _; omega
  have HBN : Hid (¬ (B = b ∨ B = c)) := by show ¬ _; omega
  have HC0 : Hid (w2.cell? ⟨B, 0, none⟩ = some (.map (some b))) := by show _ = _; simp [World.cell?, hb3]
  have HC1 : Hid (w2.cell? ⟨B, 1, none⟩ = some (.map (some c))) := by show _ = _; simp [World.cell?, hb3]
  have HEND : Hid (∀ W, Turns (fun i => i = b ∨ i = c) w2 W → Map7 W b (putE L n.data.toList a.data.toList) → Map7 W c (putE M1 a.data.toList n.data.toList) → Goes9 w B none none (putE L n.data.toList a.data.toList) W) := fun W hW h1 h2 => by
   refine ⟨some b, some c, _, ⟨(hW.block B HBL.out HBN.out).trans hb3, ⟨(fun h => nomatch h), fun b' e => by cases e; exact h1⟩, ⟨(fun h => nomatch h), fun b' e => by cases e; exact h2⟩, rfl, (fun _ _ e1 e2 => by cases e1; cases e2; exact hbc), HMIR.out, HLN.out, HALL.out⟩, (fun _ e => .inr (by cases e; omega)), (fun _ e => .inr (by cases e; omega)), ?_⟩
   exact (HT.out.next hT2 (fun i _ e => .inl e)).next hW (fun i hi e => by omega)
  clear HI HT HMIR HLN HALL hT2 hb3 hL1 hM1
  refine wp_region_gen (by kernel_rfl) (Put9 w2 B b c (delE L n.data.toList) M1 (putE L n.data.toList a.data.toList) (putE M1 a.data.toList n.data.toList) n a) ?F ?hF (by kernel_rfl) (by kernel_rfl) (fun x => Put9.start x HB1.out HB2.out) ?step ?fin
  case hF =>
   intro x
   simp only [List.map_cons, List.map_nil, putL, Act.put, List.setIfInBounds_toArray, List.set_cons_zero, List.set_cons_succ, Nat.zero_add, Nat.reduceAdd]
   exact rfl
  case step =>
   rw [← HPD.out]
   refine ⟨?_, ?_, ?_, ?_, ?_, ?_, ?_, ?_, ?_, ?_, ?_, ?_, ?_, ?_, ?_, ?_, ?_, ?_, trivial⟩
   ·
    intro D x W hi hd hI K hK
    clear hd
    go_simp
    exact hK _ _ (hI.quiet 0 _ rfl (fun _ => rfl) (fun h => absurd h (by decide)) (fun h => absurd h (by decide)))
   ·
    intro D x W hi hd hI K hK
    have h0 : x 0 = _ := hI.y 0 (by decide) (hd 0 rfl)
    clear hd
    simp only [h0] at hK
    go_simp
    exact hK _ _ (hI.quiet 1 _ rfl (fun _ => rfl) (fun h => absurd h (by decide)) (fun h => absurd h (by decide)))
   ·
    intro D x W hi hd hI K hK
    have h1 : x 1 = _ := hI.y 1 (by decide) (hd 1 rfl)
    clear hd
    simp only [h1] at hK
    go_simp
    exact hK _ _ (hI.quiet 2 _ rfl (fun _ => rfl) (fun h => absurd h (by decide)) (fun h => absurd h (by decide)))
   ·
    intro D x W hi hd hI K hK
    have h2 : x 2 = _ := hI.y 2 (by decide) (hd 2 rfl)
    have c := (hI.t.cell (p := ⟨B, 0, none⟩) HBL.out HBN.out).trans HC0.out
    clear hd
    simp only [h2] at hK
    go_simp
    exact hK _ _ (hI.quiet 3 _ rfl (fun _ => rfl) (fun h => absurd h (by decide)) (fun h => absurd h (by decide)))
   ·
    intro D x W hi hd hI K hK
    clear hd
    go_simp
    exact hK _ _ (hI.quiet 4 _ rfl (fun _ => rfl) (fun h => absurd h (by decide)) (fun h => absurd h (by decide)))
   ·
    intro D x W hi hd hI K hK
    clear hd
    go_simp
    exact hK _ _ (hI.quiet 5 _ rfl (fun _ => rfl) (fun h => absurd h (by decide)) (fun h => absurd h (by decide)))
   ·
    intro D x W hi hd hI K hK
    have h5 : x 5 = _ := hI.y 5 (by decide) (hd 5 rfl)
    clear hd
    simp only [h5] at hK
    go_simp
    exact hK _ _ (hI.quiet 6 _ rfl (fun _ => rfl) (fun h => absurd h (by decide)) (fun h => absurd h (by decide)))
   ·
    intro D x W hi hd hI K hK
    have h6 : x 6 = _ := hI.y 6 (by decide) (hd 6 rfl)
    clear hd
    simp only [h6] at hK
    go_simp
    exact hK _ _ (hI.quiet 7 _ rfl (fun _ => rfl) (fun h => absurd h (by decide)) (fun h => absurd h (by decide)))
   ·
    intro D x W hi hd hI K hK
    have h7 : x 7 = _ := hI.y 7 (by decide) (hd 7 rfl)
    have c := (hI.t.cell (p := ⟨B, 1, none⟩) HBL.out HBN.out).trans HC1.out
    clear hd
    simp only [h7] at hK
    go_simp
    exact hK _ _ (hI.quiet 8 _ rfl (fun _ => rfl) (fun h => absurd h (by decide)) (fun h => absurd h (by decide)))
   ·
    intro D x W hi hd hI K hK
    clear hd
    go_simp
    exact hK _ _ (hI.quiet 9 _ rfl (fun _ => rfl) (fun h => absurd h (by decide)) (fun h => absurd h (by decide)))
   ·
    intro D x W hi hd hI K hK
    clear hd
    go_simp
    exact hK _ _ (hI.quiet 10 _ rfl (fun _ => rfl) (fun h => absurd h (by decide)) (fun h => absurd h (by decide)))
   ·
    intro D x W hi hd hI K hK
    clear hd
    go_simp
    exact hK _ _ (hI.quiet 11 _ rfl (fun _ => rfl) (fun h => absurd h (by decide)) (fun h => absurd h (by decide)))
   ·
    intro D x W hi hd hI K hK
    have h3 : x 3 = _ := hI.y 3 (by decide) (hd 3 rfl)
    have h4 : x 4 = _ := hI.y 4 (by decide) (hd 4 rfl)
    obtain ⟨v0, st, W1, hrun, hH, hT⟩ := half9 (hI.s.at_ 0 (by decide) hi (.inl rfl)).1 HF.out n a hn' ha'
    clear hd
    simp only [h3, h4] at hK
    go_simp
    exact hK _ _ (hI.at12 hi hH hT hbc)
   ·
    intro D x W hi hd hI K hK
    have hp := hd 12 rfl
    obtain ⟨v0, st, h12⟩ := hI.e12 hp
    clear hd
    simp only [h12] at hK
    go_simp
    exact hK _ _ (hI.quiet 13 _ rfl (fun h => absurd h (by decide)) (fun _ => ⟨hp, v0, by rw [h12]⟩) (fun h => absurd h (by decide)))
   ·
    intro D x W hi hd hI K hK
    have h3 : x 3 = _ := hI.y 3 (by decide) (hd 3 rfl)
    have h10 : x 10 = _ := hI.y 10 (by decide) (hd 10 rfl)
    obtain ⟨⟨v0, st, e12, hH⟩, hM⟩ := hI.s.at_ 1 (by decide) hi (.inr (hd 12 rfl))
    obtain ⟨_, v1, e13⟩ := hI.e13 (hd 13 rfl)
    have h13 : x 13 = .int .i64 (st : Int) := (by rw [e12] at e13; simpa using e13.symm : v1 = v0 ∧ x 13 = _).2
    obtain ⟨o, ho, hst⟩ := hH
    obtain ⟨W3, hrun, hm3, hT⟩ := hst W ho
    have hd12 := hd 12 rfl
    clear hd e13 e12 hst
    simp only [h3, h13, h10] at hK
    go_simp
    exact hK undef _ (hI.at14 hi hd12 hm3 hT hbc)
   ·
    intro D x W hi hd hI K hK
    have h8 : x 8 = _ := hI.y 8 (by decide) (hd 8 rfl)
    have h9 : x 9 = _ := hI.y 9 (by decide) (hd 9 rfl)
    obtain ⟨v0, st, W1, hrun, hH, hT⟩ := half9 (hI.s.at_ 2 (by decide) hi (.inr (hd 14 rfl))).2 HG.out a n ha' hn'
    have hd14 := hd 14 rfl
    clear hd
    simp only [h8, h9] at hK
    go_simp
    exact hK _ _ (hI.at15 hi hd14 hH hT hbc)
   ·
    intro D x W hi hd hI K hK
    have hp := hd 15 rfl
    obtain ⟨v0, st, h15⟩ := hI.e15 hp
    clear hd
    simp only [h15] at hK
    go_simp
    exact hK _ _ (hI.quiet 16 _ rfl (fun h => absurd h (by decide)) (fun h => absurd h (by decide)) (fun _ => ⟨hp, v0, by rw [h15]⟩))
   ·
    intro D x W hi hd hI K hK
    have h8 : x 8 = _ := hI.y 8 (by decide) (hd 8 rfl)
    have h11 : x 11 = _ := hI.y 11 (by decide) (hd 11 rfl)
    obtain ⟨hM, v0, st, e15, hH⟩ := hI.s.at_ 3 (by decide) hi (.inr (hd 15 rfl))
    obtain ⟨_, v1, e16⟩ := hI.e16 (hd 16 rfl)
    have h16 : x 16 = .int .i64 (st : Int) := (by rw [e15] at e16; simpa using e16.symm : v1 = v0 ∧ x 16 = _).2
    obtain ⟨o, ho, hst⟩ := hH
    obtain ⟨W3, hrun, hm3, hT⟩ := hst W ho
    have hd15 := hd 15 rfl
    clear hd e16 e15 hst
    simp only [h8, h16, h11] at hK
    go_simp
    exact hK undef _ (hI.at17 hi hd15 hm3 hT hbc)
  case fin =>
   intro D x W hall hI
   have HZ := Lib.hid (HEND.out W hI.t (hI.s.done9 (fun r hr => hall _ (by simp at hr; rcases r with _ | _ | _ | _ | r <;> first | decide | omega))).1 (hI.s.done9 (fun r hr => hall _ (by simp at hr; rcases r with _ | _ | _ | _ | r <;> first | decide | omega))).2)
   clear hI hall
   go_end0
   exact ⟨rfl, HZ.out⟩
 | some b =>
  obtain ⟨c, rfl⟩ : ∃ c, q = some c := by
   have := hi.both
   cases q with
   | none => cases this
   | some c => exact ⟨c, rfl⟩
  have hbc := hi.apt b c rfl rfl
  have HB1 := Lib.hid (hi.mapp.map b rfl)
  have HB2 := Lib.hid (hi.mapq.map c rfl)
  have HBL := Lib.hid hi.lt
  have HBN : Hid (¬ (B = b ∨ B = c)) := fun e => e.elim (fun e => hi.pne b rfl e.symm) (fun e => hi.qne c rfl e.symm)
  have HC0 := Lib.hid hi.cell0
  have HC1 := Lib.hid hi.cell1
  have HEND : Hid (∀ W, Turns (fun i => i = b ∨ i = c) w1 W → Map7 W b (putE L n.data.toList a.data.toList) → Map7 W c (putE M1 a.data.toList n.data.toList) → Goes9 w B (some b) (some c) (putE L n.data.toList a.data.toList) W) := fun W hW h1 h2 => by
   refine ⟨some b, some c, _, ⟨(hW.block B HBL.out HBN.out).trans HI.out.blk, ⟨(fun h => nomatch h), fun b' e => by cases e; exact h1⟩, ⟨(fun h => nomatch h), fun b' e => by cases e; exact h2⟩, rfl, (fun _ _ e1 e2 => by cases e1; cases e2; exact hbc), HMIR.out, HLN.out, HALL.out⟩, (fun _ e => .inl e), (fun _ e => .inl e), ?_⟩
   exact HT.out.next hW (fun i _ e => e.elim (fun e => .inr (.inl (by rw [e]))) (fun e => .inr (.inr (by rw [e]))))
  clear hi HI HT HMIR HLN HALL hlp hlq hlt0
  go_wp2
  clear hc0 hq
  generalize w1 = w2 at *
  refine wp_region_gen (by kernel_rfl) (Put9 w2 B b c (delE L n.data.toList) M1 (putE L n.data.toList a.data.toList) (putE M1 a.data.toList n.data.toList) n a) ?F2 ?hF2 (by kernel_rfl) (by kernel_rfl) (fun x => Put9.start x HB1.out HB2.out) ?step2 ?fin2
  case hF2 =>
   intro x
   simp only [List.map_cons, List.map_nil, putL, Act.put, List.setIfInBounds_toArray, List.set_cons_zero, List.set_cons_succ, Nat.zero_add, Nat.reduceAdd]
   exact rfl
  case step2 =>
   rw [← HPD.out]
   refine ⟨?_, ?_, ?_, ?_, ?_, ?_, ?_, ?_, ?_, ?_, ?_, ?_, ?_, ?_, ?_, ?_, ?_, ?_, trivial⟩
   ·
    intro D x W hi hd hI K hK
    clear hd
    go_simp
    exact hK _ _ (hI.quiet 0 _ rfl (fun _ => rfl) (fun h => absurd h (by decide)) (fun h => absurd h (by decide)))
   ·
    intro D x W hi hd hI K hK
    have h0 : x 0 = _ := hI.y 0 (by decide) (hd 0 rfl)
    clear hd
    simp only [h0] at hK
    go_simp
    exact hK _ _ (hI.quiet 1 _ rfl (fun _ => rfl) (fun h => absurd h (by decide)) (fun h => absurd h (by decide)))
   ·
    intro D x W hi hd hI K hK
    have h1 : x 1 = _ := hI.y 1 (by decide) (hd 1 rfl)
    clear hd
    simp only [h1] at hK
    go_simp
    exact hK _ _ (hI.quiet 2 _ rfl (fun _ => rfl) (fun h => absurd h (by decide)) (fun h => absurd h (by decide)))
   ·
    intro D x W hi hd hI K hK
    have h2 : x 2 = _ := hI.y 2 (by decide) (hd 2 rfl)
    have c := (hI.t.cell (p := ⟨B, 0, none⟩) HBL.out HBN.out).trans HC0.out
    clear hd
    simp only [h2] at hK
    go_simp
    exact hK _ _ (hI.quiet 3 _ rfl (fun _ => rfl) (fun h => absurd h (by decide)) (fun h => absurd h (by decide)))
   ·
    intro D x W hi hd hI K hK
    clear hd
    go_simp
    exact hK _ _ (hI.quiet 4 _ rfl (fun _ => rfl) (fun h => absurd h (by decide)) (fun h => absurd h (by decide)))
   ·
    intro D x W hi hd hI K hK
    clear hd
    go_simp
    exact hK _ _ (hI.quiet 5 _ rfl (fun _ => rfl) (fun h => absurd h (by decide)) (fun h => absurd h (by decide)))
   ·
    intro D x W hi hd hI K hK
    have h5 : x 5 = _ := hI.y 5 (by decide) (hd 5 rfl)
    clear hd
    simp only [h5] at hK
    go_simp
    exact hK _ _ (hI.quiet 6 _ rfl (fun _ => rfl) (fun h => absurd h (by decide)) (fun h => absurd h (by decide)))
   ·
    intro D x W hi hd hI K hK
    have h6 : x 6 = _ := hI.y 6 (by decide) (hd 6 rfl)
    clear hd
    simp only [h6] at hK
    go_simp
    exact hK _ _ (hI.quiet 7 _ rfl (fun _ => rfl) (fun h => absurd h (by decide)) (fun h => absurd h (by decide)))
   ·
    intro D x W hi hd hI K hK
    have h7 : x 7 = _ := hI.y 7 (by decide) (hd 7 rfl)
    have c := (hI.t.cell (p := ⟨B, 1, none⟩) HBL.out HBN.out).trans HC1.out
    clear hd
    simp only [h7] at hK
    go_simp
    exact hK _ _ (hI.quiet 8 _ rfl (fun _ => rfl) (fun h => absurd h (by decide)) (fun h => absurd h (by decide)))
   ·
    intro D x W hi hd hI K hK
    clear hd
    go_simp
    exact hK _ _ (hI.quiet 9 _ rfl (fun _ => rfl) (fun h => absurd h (by decide)) (fun h => absurd h (by decide)))
   ·
    intro D x W hi hd hI K hK
    clear hd
    go_simp
    exact hK _ _ (hI.quiet 10 _ rfl (fun _ => rfl) (fun h => absurd h (by decide)) (fun h => absurd h (by decide)))
   ·
    intro D x W hi hd hI K hK
    clear hd
    go_simp
    exact hK _ _ (hI.quiet 11 _ rfl (fun _ => rfl) (fun h => absurd h (by decide)) (fun h => absurd h (by decide)))
   ·
    intro D x W hi hd hI K hK
    have h3 : x 3 = _ := hI.y 3 (by decide) (hd 3 rfl)
    have h4 : x 4 = _ := hI.y 4 (by decide) (hd 4 rfl)
    obtain ⟨v0, st, W1, hrun, hH, hT⟩ := half9 (hI.s.at_ 0 (by decide) hi (.inl rfl)).1 HF.out n a hn' ha'
    clear hd
    simp only [h3, h4] at hK
    go_simp
    exact hK _ _ (hI.at12 hi hH hT hbc)
   ·
    intro D x W hi hd hI K hK
    have hp := hd 12 rfl
    obtain ⟨v0, st, h12⟩ := hI.e12 hp
    clear hd
    simp only [h12] at hK
    go_simp
    exact hK _ _ (hI.quiet 13 _ rfl (fun h => absurd h (by decide)) (fun _ => ⟨hp, v0, by rw [h12]⟩) (fun h => absurd h (by decide)))
   ·
    intro D x W hi hd hI K hK
    have h3 : x 3 = _ := hI.y 3 (by decide) (hd 3 rfl)
    have h10 : x 10 = _ := hI.y 10 (by decide) (hd 10 rfl)
    obtain ⟨⟨v0, st, e12, hH⟩, hM⟩ := hI.s.at_ 1 (by decide) hi (.inr (hd 12 rfl))
    obtain ⟨_, v1, e13⟩ := hI.e13 (hd 13 rfl)
    have h13 : x 13 = .int .i64 (st : Int) := (by rw [e12] at e13; simpa using e13.symm : v1 = v0 ∧ x 13 = _).2
    obtain ⟨o, ho, hst⟩ := hH
    obtain ⟨W3, hrun, hm3, hT⟩ := hst W ho
    have hd12 := hd 12 rfl
    clear hd e13 e12 hst
    simp only [h3, h13, h10] at hK
    go_simp
    exact hK undef _ (hI.at14 hi hd12 hm3 hT hbc)
   ·
    intro D x W hi hd hI K hK
    have h8 : x 8 = _ := hI.y 8 (by decide) (hd 8 rfl)
    have h9 : x 9 = _ := hI.y 9 (by decide) (hd 9 rfl)
    obtain ⟨v0, st, W1, hrun, hH, hT⟩ := half9 (hI.s.at_ 2 (by decide) hi (.inr (hd 14 rfl))).2 HG.out a n ha' hn'
    have hd14 := hd 14 rfl
    clear hd
    simp only [h8, h9] at hK
    go_simp
    exact hK _ _ (hI.at15 hi hd14 hH hT hbc)
   ·
    intro D x W hi hd hI K hK
    have hp := hd 15 rfl
    obtain ⟨v0, st, h15⟩ := hI.e15 hp
    clear hd
    simp only [h15] at hK
    go_simp
    exact hK _ _ (hI.quiet 16 _ rfl (fun h => absurd h (by decide)) (fun h => absurd h (by decide)) (fun _ => ⟨hp, v0, by rw [h15]⟩))
   ·
    intro D x W hi hd hI K hK
    have h8 : x 8 = _ := hI.y 8 (by decide) (hd 8 rfl)
    have h11 : x 11 = _ := hI.y 11 (by decide) (hd 11 rfl)
    obtain ⟨hM, v0, st, e15, hH⟩ := hI.s.at_ 3 (by decide) hi (.inr (hd 15 rfl))
    obtain ⟨_, v1, e16⟩ := hI.e16 (hd 16 rfl)
    have h16 : x 16 = .int .i64 (st : Int) := (by rw [e15] at e16; simpa using e16.symm : v1 = v0 ∧ x 16 = _).2
    obtain ⟨o, ho, hst⟩ := hH
    obtain ⟨W3, hrun, hm3, hT⟩ := hst W ho
    have hd15 := hd 15 rfl
    clear hd e16 e15 hst
    simp only [h8, h16, h11] at hK
    go_simp
    exact hK undef _ (hI.at17 hi hd15 hm3 hT hbc)
  case fin2 =>
   intro D x W hall hI
   have HZ := Lib.hid (HEND.out W hI.t (hI.s.done9 (fun r hr => hall _ (by simp at hr; rcases r with _ | _ | _ | _ | r <;> first | decide | omega))).1 (hI.s.done9 (fun r hr => hall _ (by simp at hr; rcases r with _ | _ | _ | _ | r <;> first | decide | omega))).2)
   clear hI hall
   go_end0
   exact ⟨rfl, HZ.out⟩
end Go.Proofs.YthlgmkfofebbfaaGreatDoor

