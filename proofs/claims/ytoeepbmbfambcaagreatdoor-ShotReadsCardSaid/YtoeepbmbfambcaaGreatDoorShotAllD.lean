/-
  The texts that the laws of this seat share, part 4: what the code and the document's own answers tell, walked function by function.
  Conditions: each theorem's own.
-/
import Derived.Maps.OwnSet
import Derived.Maps.StringElems
import Derived.Sort.KeysCollected
import Derived.Lib.Bytealg
import Derived.StringKeys
import Derived.Shelf.SlMaps.Clone
import Derived.Shelf.Small.Bits
import Derived.Shelf.Small.Strs
import Derived.Shelf.Strconv.Itoa0
import Derived.Shelf.Strings.Search1
import Derived.Shelf.Strings.Search2
import Derived.Shelf.Strings.Search3
import Derived.Shelf.Strings.Cut
import Derived.Shelf.Strings.Count
import Derived.Shelf.LaysM
import Derived.Shelf.Strings.Shaped
import Derived.Shelf.Strings.Split
import Derived.Shelf.Strings.SplitShaped
import Derived.Shelf.Unicode.DecodeSlow
import Derived.Shelf.Slices.Equal
import Derived.Shelf.Slices.Empties2
import Derived.Ground.SlsfProg
import Derived.Shelf.SlSortCmp.Insertion
import Derived.Shelf.SlSortCmp.SiftDown1
import Derived.Shelf.SlSortCmp.HeapSort1
import Derived.Shelf.SlSortCmp.Insertion1
import Derived.Shelf.SlSortCmp.Median1
import Derived.Shelf.SlSortCmp.Pivot1
import Derived.Shelf.SlSortCmp.ReverseRange1
import Derived.Shelf.SlSortCmp.PartialInsertion1
import Derived.Shelf.SlSortCmp.PartitionEqual1
import Derived.Shelf.SlSortCmp.Partition1
import Derived.Shelf.SlSortCmp.Pdq1
import Derived.Shelf.SlSortCmp.Whole1
import Derived.Shelf.SlSortCmp.NoneTotal
import Derived.Test.YtoeepbmbfambcaaGreatDoorProg
import Derived.Sort.OwnSorted
import Derived.Shelf.SlIter.Collect
import Derived.ProofKit
import Derived.OpenShut
import Derived.Lay
import Derived.SevenTiedAt
import Derived.MakeChecks
import Derived.Shelf.Vars
import Derived.ChangeOld
import Derived.SliceStrings
import Derived.Deep.Slices
import Derived.SizedLaws
import Derived.Laws.Cover1
import Derived.Test.YtoeepbmbfambcaaGreatDoorRows
import Derived.Test.YtoeepbmbfambcaaGreatDoorShotAllA
import Derived.Test.YtoeepbmbfambcaaGreatDoorShotAllB
import Derived.Test.YtoeepbmbfambcaaGreatDoorShotAllC
namespace Go.Proofs.YtoeepbmbfambcaaGreatDoor
open Go.RowKit

/-- The first error of several. -/
def first7 : List Int → Int
  | [] => 0
  | e :: l => if e = 0 then first7 l else e

/-- The value v is a function that tells the error n, now and in every later world. -/
def Ask7 (v : Value) (n : Int) (w : World) : Prop :=
  ∃ g lb, v = .func (.func g) #[] lb ∧ (∀ args w, (callFunc g args).run Tryz.prog w = .ok (.enter g args) w) ∧
    ∀ W : World, Below w.heap.size w W → Calls Tryz.prog g lb W (Errs5 n W)
theorem Ask7.later {v : Value} {n : Int} {w W : World} (h : Ask7 v n w) (hb : Below w.heap.size w W) : Ask7 v n W := by
  obtain ⟨g, lb, e, eg, hp⟩ := h
  exact ⟨g, lb, e, eg, fun W' hb' => hp W' (below_next hb hb')⟩
/-- .. that tells the truth b. -/
def Holds7 (v : Value) (b : Bool) (w : World) : Prop :=
  ∃ g lb, v = .func (.func g) #[] lb ∧ (∀ args w, (callFunc g args).run Tryz.prog w = .ok (.enter g args) w) ∧
    ∀ W : World, Below w.heap.size w W → Calls Tryz.prog g lb W (Tells5 b W)
theorem Holds7.later {v : Value} {b : Bool} {w W : World} (h : Holds7 v b w) (hb : Below w.heap.size w W) : Holds7 v b W := by
  obtain ⟨g, lb, e, eg, hp⟩ := h
  exact ⟨g, lb, e, eg, fun W' hb' => hp W' (below_next hb hb')⟩
/-- A function value is told that asks; nothing that was there has turned. -/
def Makes7 (n : Int) (w : World) (e : Ending) (w' : World) : Prop := ∃ g lb, e = .returned (.func (.func g) #[] lb) ∧ Ask7 (.func (.func g) #[] lb) n w' ∧ Below w.heap.size w w'

set_option maxRecDepth 100000 in
theorem unless71_calls (B C : Nat) (v : Value) (b : Bool) (n : Int) (w : World) (hB : w.cell? ⟨B, 0, none⟩ = some v) (hC : w.cell? ⟨C, 0, none⟩ = some (.int .i64 n)) (hv : Holds7 v b w) :
    Calls Tryz.prog 90 #[.pointer (some ⟨B, 0, none⟩), .pointer (some ⟨C, 0, none⟩)] w (Errs5 (err5 b n) w) := by
  obtain ⟨g, lb, rfl, eg, hp⟩ := hv
  have HC := Lib.hid (hp w (Below.refl _ _))
  have hlt : C < w.heap.size := World.block_lt_of_cell? w _ hC
  have HCC := Lib.hid hC
  clear hp hC
  cases b with
  | true =>
    show Calls _ _ _ _ (Errs5 0 w)
    go_enter Tryz.func90, Tryz.ntmps90
    go_wp2_with (go_at_fn g; refine HC.out.mono ?_; rintro e w1 ⟨rfl, hb⟩; have HB := Lib.hid hb; clear hb)
    go_ret
    exact ⟨rfl, HB.out⟩
  | false =>
    show Calls _ _ _ _ (Errs5 n w)
    go_enter Tryz.func90, Tryz.ntmps90
    go_wp2_with (go_at_fn g; refine HC.out.mono ?_; rintro e w1 ⟨rfl, hb⟩; have HB := Lib.hid hb; have c1 := (hb.cell (p := ⟨C, 0, none⟩) hlt).trans HCC.out; clear hb)
    go_ret
    exact ⟨rfl, HB.out⟩

set_option maxRecDepth 100000 in
theorem unless7_calls (g : Nat) (lb : Array Value) (b : Bool) (n : Int) (w : World) (hv : Holds7 (.func (.func g) #[] lb) b w) : Calls Tryz.prog 60 #[.func (.func g) #[] lb, .int .i64 n] w (Makes7 (err5 b n) w) := by
  have hmf := mkf
  have HV := Lib.hid hv
  clear hv
  go_enter Tryz.func60, Tryz.ntmps60
  go_wp2
  go_ret
  refine ⟨_, _, rfl, ?_, below_alloc (below_alloc (Below.refl _ _) _) _⟩
  refine ⟨_, _, rfl, enters_of Tryz.func90 (by kernel_rfl) rfl, fun W hb => ?_⟩
  exact unless71_calls _ _ _ b n W ((hb.cell (p := ⟨_, 0, none⟩) (by simp; try omega)).trans (by simp)) ((hb.cell (p := ⟨_, 0, none⟩) (by simp; try omega)).trans (by simp)) (HV.out.later (below_next (below_alloc (below_alloc (Below.refl _ _) _) _) hb))

set_option maxRecDepth 100000 in
theorem fit71_calls (C : Nat) (n : Int) (w : World) (hC : w.cell? ⟨C, 0, none⟩ = some (.int .i64 n)) : Calls Tryz.prog 61 #[.pointer (some ⟨C, 0, none⟩)] w (Tells5 (decide (n ≤ 12)) w) := by
  by_cases h : n ≤ 12
  all_goals
    rw [show decide (n ≤ 12) = _ from by first | exact decide_eq_true h | exact decide_eq_false h]
    go_enter Tryz.func61, Tryz.ntmps61
    go_wp2
    all_goals first | (exfalso; omega) | (go_ret; exact ⟨by simp, Below.refl _ _⟩)
set_option maxRecDepth 100000 in
theorem fit7_calls (n : Int) (w : World) : Calls Tryz.prog 37 #[.int .i64 n] w (Makes7 (err5 (decide (n ≤ 12)) 7) w) := by
  have hmf := mkf
  have HU : Hid (∀ W, Below w.heap.size (w.alloc (.cells #[.int .i64 n] 3)) W → Calls Tryz.prog 60 #[.func (.func 61) #[] #[.pointer (some ⟨w.heap.size, 0, none⟩)], .int .i64 7] (w.alloc (.cells #[.int .i64 n] 3)) (Makes7 (err5 (decide (n ≤ 12)) 7) (w.alloc (.cells #[.int .i64 n] 3)))) := fun _ _ =>
    unless7_calls _ _ _ _ _ ⟨_, _, rfl, enters_of Tryz.func61 (by kernel_rfl) rfl, fun W hb => fit71_calls _ n W ((hb.cell (p := ⟨_, 0, none⟩) (by simp)).trans (by simp))⟩
  have HU2 := Lib.hid (HU.out _ (Below.refl _ _))
  clear HU
  generalize err5 (decide (n ≤ 12)) 7 = r at *
  go_enter Tryz.func37, Tryz.ntmps37
  go_wp2_with fail
  with_reducible refine HU2.out.mono ?_
  rintro e w1 ⟨g, lb, rfl, ha, hb⟩
  have HA := Lib.hid ha
  have HB := Lib.hid hb
  clear ha hb HU2
  go_wp2
  go_ret
  exact ⟨g, lb, rfl, HA.out, below_next (below_alloc (Below.refl _ _) _) HB.out⟩

/-- Askers in a row at block B. -/
def AskRow7 (w : World) (B : Nat) (l : List (Value × Int)) : Prop := B < w.heap.size ∧ ∀ j (h : j < l.length), w.cell? ⟨B, j, none⟩ = some l[j].1 ∧ Ask7 l[j].1 l[j].2 w
theorem AskRow7.later {w W : World} {B : Nat} {l : List (Value × Int)} (h : AskRow7 w B l) (hb : Below w.heap.size w W) : AskRow7 W B l :=
  ⟨Nat.lt_of_lt_of_le h.1 hb.size, fun j hj => ⟨(hb.cell (p := ⟨B, j, none⟩) h.1).trans (h.2 j hj).1, (h.2 j hj).2.later hb⟩⟩

set_option maxRecDepth 100000 in
theorem first7_calls (B n cap : Nat) (l : List (Value × Int)) (w : World) (hl : n = l.length) (hn : n ≤ 1000) (hr : AskRow7 w B l) :
    Calls Tryz.prog 34 #[.slice (some ⟨B, 0, none⟩) n cap] w (Errs5 (first7 (l.map (·.2))) w) := by
  have HR := Lib.hid hr
  have HL := Lib.hid hl
  clear hr hl
  obtain ⟨r, hr⟩ : ∃ r, r = first7 (l.map (·.2)) := ⟨_, rfl⟩
  rw [← hr]
  have HRR := Lib.hid hr
  clear hr
  go_enter Tryz.func34, Tryz.ntmps34
  go_wp2
  go_loopg [4, 5, 8] n (fun gg _ _ s8 wr => ∃ kk : Nat, kk ≤ n ∧ n - kk ≤ gg ∧ s8 = .int .i64 kk ∧ Hid (Below w.heap.size w wr) ∧ Hid (r = first7 ((l.map (·.2)).drop kk)))
  case atStart => exact ⟨0, Nat.zero_le _, by omega, rfl, Below.refl _ _, HRR.out⟩
  case round =>
    obtain ⟨kk, hkk, hg, rfl, HW, A⟩ := hrel
    by_cases hlt : kk < n
    · have hltz : (kk : Int) < (n : Int) := by omega
      have hk : kk < l.length := HL.out ▸ hlt
      obtain ⟨hcell, g, lb, hv, eg, hp⟩ := (HR.out.later HW.out).2 kk hk
      have hcall := hp wr (Below.refl _ _)
      rw [hv] at hcell
      have HC := Lib.hid hcall
      have hA : r = (if l[kk].2 = 0 then first7 ((l.map (·.2)).drop (kk + 1)) else l[kk].2) := by
        have := A.out
        rw [List.drop_eq_getElem_cons (by simpa using hk), List.getElem_map] at this
        exact this
      clear hp hcall hv A
      generalize l[kk].2 = x at *
      by_cases h0 : x = 0
      · rw [if_pos h0] at hA
        have HA := Lib.hid hA
        subst h0
        clear hA
        go_wp2_with (go_at_fn g; refine HC.out.mono ?_; rintro e w' ⟨rfl, hb⟩; have HB := Lib.hid (below_next HW.out hb); clear hb)
        go_roundg (n - (kk + 1))
        case measure => omega
        case rel => exact ⟨kk + 1, by omega, by omega, by go_num, HB, HA⟩
      · rw [if_neg h0] at hA
        subst hA
        go_wp2_with (go_at_fn g; refine HC.out.mono ?_; rintro e w' ⟨rfl, hb⟩; have HB := Lib.hid (below_next HW.out hb); clear hb)
        go_ret
        exact ⟨rfl, HB.out⟩
    · have hltz : ¬ (kk : Int) < (n : Int) := by omega
      have hA : r = 0 := by
        have := A.out
        rw [List.drop_eq_nil_of_le (by have := HL.out; simp; omega)] at this
        exact this
      subst hA
      clear A
      go_wp2
      go_ret
      exact ⟨rfl, HW.out⟩

end Go.Proofs.YtoeepbmbfambcaaGreatDoor

namespace Go.Proofs.YtoeepbmbfambcaaGreatDoor
open Go.Maps

/-- Names with their sums. -/
abbrev Row7 := List (List UInt8 × List UInt8)

/-- Each name is above the one ahead. -/
def Rise7 (L : Row7) : Prop := L.Pairwise (fun p q => bytesBefore p.1 q.1 = true)

def entE (p : List UInt8 × List UInt8) : Lit × DataW Unit := (.string p.1, .lit (.string p.2))
def datE (L : Row7) : DataW Unit := .map (L.map entE)

def insE (x : List UInt8 × List UInt8) : Row7 → Row7
  | [] => [x]
  | y :: r => if bytesBefore x.1 y.1 then x :: y :: r else y :: insE x r
def delE (L : Row7) (k : List UInt8) : Row7 := L.filter (fun p => !(p.1 == k))
def putE (L : Row7) (k v : List UInt8) : Row7 := insE (k, v) (delE L k)
def hasE (L : Row7) (k : List UInt8) : Bool := L.any (fun p => p.1 == k)
def getE (L : Row7) (k : List UInt8) : List UInt8 := match L.find? (fun p => p.1 == k) with | some p => p.2 | none => []

theorem datE_ins (x : List UInt8 × List UInt8) : ∀ L : Row7, (insE x L).map entE = DataW.insert (entE x) (L.map entE)
  | [] => rfl
  | y :: r => by
    simp only [insE, List.map_cons, DataW.insert]
    have e : (entE x).1.before (entE y).1 = bytesBefore x.1 y.1 := rfl
    rw [e]
    cases bytesBefore x.1 y.1
    · simp [datE_ins x r]
    · simp

theorem datE_fil (k : List UInt8) : ∀ L : Row7, (delE L k).map entE = (L.map entE).filter (fun p => !p.1.sameKey (.string k))
  | [] => rfl
  | y :: r => by
    have ih := datE_fil k r
    unfold delE at ih ⊢
    have e : (entE y).1.sameKey (.string k) = (y.1 == k) := rfl
    simp only [List.filter_cons, List.map_cons, e]
    cases (y.1 == k) <;> simp [ih]

theorem datE_put (L : Row7) (k v : List UInt8) : (datE L).put (.string k) (.lit (.string v)) = datE (putE L k v) := by
  unfold datE putE
  rw [datE_ins, datE_fil]; rfl
theorem datE_del (L : Row7) (k : List UInt8) : (datE L).del (.string k) = datE (delE L k) := by
  unfold datE
  rw [datE_fil]; rfl
theorem datE_has (L : Row7) (k : List UInt8) : Maps.has (datE L) (.string k) = hasE L k := by
  unfold datE hasE
  rw [Maps.has_eq, List.any_map]; rfl
theorem datE_at (L : Row7) (k : List UInt8) : (datE L).atKey (.string k) (.lit (.string [])) = .lit (.string (getE L k)) := by
  unfold datE getE
  unfold DataW.atKey
  simp only [List.find?_map]
  have e : ((fun p : Lit × DataW Unit => p.1.sameKey (.string k)) ∘ entE) = (fun p => p.1 == k) := rfl
  rw [e]
  cases L.find? (fun p => p.1 == k) <;> rfl
theorem datE_size (L : Row7) : Maps.size (datE L) = L.length := by simp [datE, Maps.size]
theorem datE_keys (L : Row7) : strKeys (datE L) = L.map (·.1) := by
  simp only [datE, strKeys, List.map_map]; rfl

/-! ### the order -/
theorem before_cmp : ∀ a b : List UInt8, decide (Lib.compareBytes a b < 0) = bytesBefore a b
  | [], [] => by simp [Lib.compareBytes, bytesBefore]
  | [], _ :: _ => by simp [Lib.compareBytes, bytesBefore]
  | _ :: _, [] => by simp [Lib.compareBytes, bytesBefore]
  | a :: r, b :: s => by
    unfold Lib.compareBytes bytesBefore
    by_cases h : a < b
    · simp [h]
    · by_cases h2 : b < a
      · have hn : a ≠ b := fun e => by subst e; exact h h2
        simp [h, h2, hn]
      · have e : a = b := by
          have h1 := UInt8.not_lt.1 h; have h3 := UInt8.not_lt.1 h2
          exact UInt8.le_antisymm h3 h1
        subst e
        simp [before_cmp r s]

theorem before_irrefl (a : List UInt8) : bytesBefore a a = false := WideAt.bytes_irrefl a
theorem before_ne {a b : List UInt8} (h : bytesBefore a b = true) : a ≠ b := fun e => by subst e; rw [before_irrefl] at h; cases h
theorem before_anti {a b : List UInt8} (h : bytesBefore a b = true) : bytesBefore b a = false := by
  cases hb : bytesBefore b a
  · rfl
  · exact absurd (WideShapes.bytes_trans _ _ _ h hb) (by rw [before_irrefl]; exact Bool.noConfusion)

theorem rise_del {L : Row7} (h : Rise7 L) (k : List UInt8) : Rise7 (delE L k) := h.filter _
theorem mem_ins {x y : List UInt8 × List UInt8} : ∀ {L : Row7}, y ∈ insE x L ↔ y = x ∨ y ∈ L
  | [] => by simp [insE]
  | z :: r => by
    unfold insE
    split
    · simp
    · simp only [List.mem_cons, mem_ins (L := r)]
      constructor
      · rintro (h | h | h)
        · exact .inr (.inl h)
        · exact .inl h
        · exact .inr (.inr h)
      · rintro (h | h | h)
        · exact .inr (.inl h)
        · exact .inl h
        · exact .inr (.inr h)
theorem rise_ins {x : List UInt8 × List UInt8} : ∀ {L : Row7}, Rise7 L → (∀ p ∈ L, p.1 ≠ x.1) → Rise7 (insE x L)
  | [], _, _ => by simp [insE, Rise7]
  | y :: r, h, hn => by
    unfold insE
    obtain ⟨h1, h2⟩ := List.pairwise_cons.1 h
    split
    · rename_i hb
      exact List.pairwise_cons.2 ⟨fun p hp => by
        rcases List.mem_cons.1 hp with rfl | hp
        · exact hb
        · exact WideShapes.bytes_trans _ _ _ hb (h1 p hp), h⟩
    · rename_i hb
      have hyx : bytesBefore y.1 x.1 = true := by
        rcases WideAt.bytes_total y.1 x.1 (hn y (by simp)) with h' | h'
        · exact h'
        · exact absurd h' hb
      exact List.pairwise_cons.2 ⟨fun p hp => by
        rcases mem_ins.1 hp with rfl | hp
        · exact hyx
        · exact h1 p hp, rise_ins h2 (fun p hp => hn p (by simp [hp]))⟩
theorem mem_del {L : Row7} {k : List UInt8} {p : List UInt8 × List UInt8} : p ∈ delE L k ↔ p ∈ L ∧ p.1 ≠ k := by
  unfold delE; simp
theorem rise_put {L : Row7} (h : Rise7 L) (k v : List UInt8) : Rise7 (putE L k v) :=
  rise_ins (rise_del h k) (fun _ hp => (mem_del.1 hp).2)

theorem ins_length (x : List UInt8 × List UInt8) : ∀ L : Row7, (insE x L).length = L.length + 1
  | [] => rfl
  | y :: r => by unfold insE; split <;> simp [ins_length x r]
theorem hasE_iff {L : Row7} {k : List UInt8} : hasE L k = true ↔ ∃ p ∈ L, p.1 = k := by simp [hasE]
theorem del_of_not {L : Row7} {k : List UInt8} (h : hasE L k = false) : delE L k = L := by
  unfold delE; rw [List.filter_eq_self]
  intro p hp
  cases e : (p.1 == k)
  · rfl
  · have : hasE L k = true := hasE_iff.2 ⟨p, hp, by simpa using e⟩
    rw [h] at this; cases this
theorem del_length {L : Row7} (hr : Rise7 L) {k : List UInt8} (h : hasE L k = true) : (delE L k).length + 1 = L.length := by
  induction L with
  | nil => simp [hasE] at h
  | cons y r ih =>
    obtain ⟨h1, h2⟩ := List.pairwise_cons.1 hr
    by_cases e : y.1 = k
    · have hn : hasE r k = false := by
        cases hh : hasE r k
        · rfl
        · obtain ⟨p, hp, hk⟩ := hasE_iff.1 hh
          exact absurd (h1 p hp) (by rw [e, hk, before_irrefl]; exact Bool.noConfusion)
      have e2 := del_of_not hn
      unfold delE at e2 ⊢
      simp [e, e2]
    · have hh : hasE r k = true := by
        obtain ⟨p, hp, hk⟩ := hasE_iff.1 h
        rcases List.mem_cons.1 hp with rfl | hp
        · exact absurd hk e
        · exact hasE_iff.2 ⟨p, hp, hk⟩
      have := ih h2 hh
      unfold delE at this ⊢
      have e' : (y.1 == k) = false := by simpa using e
      rw [List.filter_cons]
      simp only [e', Bool.not_false, if_true, List.length_cons]
      omega
theorem put_length {L : Row7} (hr : Rise7 L) (k v : List UInt8) : (putE L k v).length = if hasE L k then L.length else L.length + 1 := by
  unfold putE
  rw [ins_length]
  cases h : hasE L k
  · rw [del_of_not h]; simp
  · have := del_length hr h; simp; omega

theorem get_mem {L : Row7} (hr : Rise7 L) {q : List UInt8 × List UInt8} (h : q ∈ L) : getE L q.1 = q.2 := by
  induction L with
  | nil => cases h
  | cons y r ih =>
    obtain ⟨h1, h2⟩ := List.pairwise_cons.1 hr
    rcases List.mem_cons.1 h with rfl | h
    · simp [getE]
    · have hne : (y.1 == q.1) = false := by
        have := before_ne (h1 q h)
        simpa using this
      have := ih h2 h
      unfold getE at this ⊢
      rw [List.find?_cons, hne]
      exact this

/-! ### sorting what a map gave -/
theorem sort_names {L : Row7} (hr : Rise7 L) {ss : List (List UInt8)} (hp : ss.Perm (L.map (·.1))) (le : List UInt8 → List UInt8 → Bool) (hle : ∀ x y, le x y = !bytesBefore y x) : ss.mergeSort le = L.map (·.1) := by
  have htr : ∀ a b c, le a b = true → le b c = true → le a c = true := by
    intro a b c h1 h2
    rw [hle] at *
    simp only [Bool.not_eq_eq_eq_not, Bool.not_true] at *
    cases hca : bytesBefore c a
    · rfl
    · by_cases e : a = b
      · subst e; rw [hca] at h2; cases h2
      · rcases WideAt.bytes_total a b e with h | h
        · rw [WideShapes.bytes_trans _ _ _ hca h] at h2; cases h2
        · rw [h] at h1; cases h1
  have htot : ∀ a b, (le a b || le b a) = true := by
    intro a b
    rw [hle, hle]
    cases h : bytesBefore b a
    · rfl
    · rw [before_anti h]; rfl
  have hs : (ss.mergeSort le).Pairwise (fun a b => le a b = true) := List.pairwise_mergeSort htr htot ss
  have hq : (ss.mergeSort le).Perm (L.map (·.1)) := (List.mergeSort_perm ss le).trans hp
  have hL : (L.map (·.1)).Pairwise (fun a b => le a b = true) := by
    rw [List.pairwise_map]
    exact hr.imp (fun h => by rw [hle, before_anti h]; rfl)
  refine List.Perm.eq_of_pairwise (le := fun a b => le a b = true) ?_ hs hL hq
  intro a b _ _ h1 h2
  rw [hle] at h1 h2
  by_cases e : a = b
  · exact e
  · rcases WideAt.bytes_total a b e with h | h
    · rw [h] at h2; cases h2
    · rw [h] at h1; cases h1

end Go.Proofs.YtoeepbmbfambcaaGreatDoor

namespace Go.Proofs.YtoeepbmbfambcaaGreatDoor
open Go.RowKit Go.Maps

theorem ownsMap_tight {H : Type} {w : World} {P : Program} {k : TypeId} {R : Value → Option (DataW H × List MemPlace)} {b n : Nat} {D : DataW H} (h : w.ownsMap P k R b n D) : w.ownsMap P k R b (Maps.size D) D := by
  obtain ⟨es, clock, hb, F, _, rfl⟩ := h
  have e1 : Maps.size (DataW.map ((es.toList.map (WideElems.rg P k R)).foldr DataW.insert [])) = es.size := by simp [Maps.size, length_sorted]
  exact ⟨es, clock, hb, F, by rw [e1]; exact Nat.le_refl _, rfl⟩

/-- Block b is a map that reads as the row L. -/
def Map7 (w : World) (b : Nat) (L : Row7) : Prop := w.ownsMap Tryz.prog 9 (plainElem Tryz.prog 9) b L.length (datE L)
theorem Map7.of {w : World} {b n : Nat} {L : Row7} (h : w.ownsMap Tryz.prog 9 (plainElem Tryz.prog 9) b n (datE L)) : Map7 w b L := by
  have := ownsMap_tight h
  rwa [datE_size] at this
theorem Map7.kept {w w' : World} {b : Nat} {L : Row7} (h : Map7 w b L) (hb : w'.heap[b]? = w.heap[b]?) : Map7 w' b L := by
  obtain ⟨es, clock, h1, r⟩ := h
  exact ⟨es, clock, hb.trans h1, r⟩

/-- Block B is a directory with the map p that has the row L. -/
structure Dir7 (w : World) (B : Nat) (p : Option Nat) (L : Row7) : Prop where
  blk : w.heap[B]? = some (.cells #[.map p] 66 (0, 0))
  nil : p = none → L = []
  map : ∀ b, p = some b → Map7 w b L
  rise : Rise7 L
  few : L.length ≤ 12
  all : ∀ q ∈ L, q.1.length ≤ 12 ∧ q.2.length ≤ 12

section
variable {w w' : World} {B : Nat} {p : Option Nat} {L : Row7}
theorem Dir7.lt (h : Dir7 w B p L) : B < w.heap.size := (Array.getElem?_eq_some_iff.1 h.blk).1
theorem Dir7.mlt (h : Dir7 w B p L) : ∀ b, p = some b → b < w.heap.size := fun b hb => (h.map b hb).lt
theorem Dir7.cell (h : Dir7 w B p L) : w.cell? ⟨B, 0, none⟩ = some (.map p) := by simp [World.cell?, h.blk]
theorem Dir7.frozen (h : Dir7 w B p L) : w.frozen? ⟨B, 0, none⟩ = false := by simp [World.frozen?, h.blk]
theorem Dir7.apart (h : Dir7 w B p L) : ∀ b, p = some b → b ≠ B := fun b hb e => by
  obtain ⟨es, clock, h1, _⟩ := h.map b hb
  subst e
  rw [h.blk] at h1
  cases h1
theorem Dir7.turns {S : Nat → Prop} (h : Dir7 w B p L) (ht : Turns S w w') (hB : ¬ S B) (hp : ∀ b, p = some b → ¬ S b) : Dir7 w' B p L :=
  ⟨(ht.block B h.lt hB).trans h.blk, h.nil, fun b hb => (h.map b hb).kept (ht.block b (h.mlt b hb) (hp b hb)), h.rise, h.few, h.all⟩
theorem Dir7.later (h : Dir7 w B p L) (hb : Below w.heap.size w w') : Dir7 w' B p L := h.turns (Turns.of_below hb (fun _ => False)) (fun f => f) (fun _ _ f => f)
end

/-- Behind a deed: the directory has the row L', in the map that it had or in a new one; nothing else has turned. -/
def Goes7 (w : World) (B : Nat) (p : Option Nat) (L' : Row7) (w' : World) : Prop := ∃ p', Dir7 w' B p' L' ∧ (∀ b, p' = some b → p = some b ∨ w.heap.size ≤ b) ∧ Turns (fun i => i = B ∨ p = some i) w w'
theorem Goes7.still {w w' : World} {B : Nat} {p : Option Nat} {L : Row7} (h : Dir7 w B p L) (hb : Below w.heap.size w w') : Goes7 w B p L w' :=
  ⟨p, h.later hb, fun _ e => .inl e, Turns.of_below hb _⟩
theorem Goes7.ahead {w w1 w' : World} {B : Nat} {p : Option Nat} {L' : Row7} (hb : Below w.heap.size w w1) (h : Goes7 w1 B p L' w') : Goes7 w B p L' w' := by
  obtain ⟨p', hd, hp, ht⟩ := h
  exact ⟨p', hd, fun b e => (hp b e).imp id (fun h => Nat.le_trans hb.size h), (Turns.of_below hb _).next ht (fun i _ h => h)⟩
theorem Goes7.behind {w w1 w' : World} {B : Nat} {p : Option Nat} {L' : Row7} (h : Goes7 w B p L' w1) (hb : Below w1.heap.size w1 w') : Goes7 w B p L' w' := by
  obtain ⟨p', hd, hp, ht⟩ := h
  exact ⟨p', hd.later hb, hp, ht.next (Turns.of_below hb (fun _ => False)) (fun _ _ f => f.elim)⟩

theorem keyed7 : Keyed Tryz.prog 9 := string_keyed Tryz.underlying9
theorem zero7 (w : World) : (zeroValue 9).run Tryz.prog w = .ok (.string ⟨#[]⟩) w := by kernel_rfl
theorem key7 (s : ByteArray) (h : s.size ≤ maxLen) : keyOf Tryz.prog 9 (.string s) = some (.string s.data.toList) := WideMaps.keyOf_string_mk Tryz.underlying9 h
theorem bytes7_back (s : ByteArray) (l : List UInt8) (h : s.data.toList = l) : s = ⟨l.toArray⟩ := by
  subst h; simp

/-- A text out of bytes. -/
def tx7 (l : List UInt8) : ByteArray := ⟨l.toArray⟩
theorem tx7_list (l : List UInt8) : (tx7 l).data.toList = l := by simp [tx7]
theorem tx7_back (s : ByteArray) : tx7 s.data.toList = s := by simp [tx7]

/-- 'v, ok := m[k]', 'm[k]', 'len(m)' of a directory's map. -/
theorem look7 {w : World} {B : Nat} {p : Option Nat} {L : Row7} (h : Dir7 w B p L) (s : ByteArray) (hs : s.size ≤ maxLen) :
    (Instr.lookup 64 (.map p) (.string s) true).run Tryz.prog w = .ok (.tuple #[.string (tx7 (getE L s.data.toList)), .bool (hasE L s.data.toList)]) w := by
  cases p with
  | none =>
    have hL := h.nil rfl
    subst hL
    have := Maps.look_nil (P := Tryz.prog) (w := w) (t := 64) true keyed7 Tryz.underlying64 (zero7 w) (key7 s hs)
    exact this
  | some b =>
    obtain ⟨v, ps, hrun, hv⟩ := (h.map b rfl).look_ok keyed7 Tryz.underlying64 (zero7 w) (plainElem_string (H := Unit) Tryz.underlying9 (s := ⟨#[]⟩) (by decide)) (key7 s hs)
    obtain ⟨c, rfl, hc, _⟩ := plainElem_string_inv Tryz.underlying9 hv
    rw [hrun, datE_has]
    have e : (datE L).atKey (.string s.data.toList) (.lit (.string [])) = .lit (.string (getE L s.data.toList)) := datE_at L _
    have hc' : (datE L).atKey (.string s.data.toList) (.lit (.string [])) = .lit (.string c.data.toList) := congrArg Prod.fst hc
    rw [e] at hc'
    have : getE L s.data.toList = c.data.toList := by simpa using hc'
    rw [this, tx7_back]
theorem look71 {w : World} {B : Nat} {p : Option Nat} {L : Row7} (h : Dir7 w B p L) (s : ByteArray) (hs : s.size ≤ maxLen) :
    (Instr.lookup 64 (.map p) (.string s) false).run Tryz.prog w = .ok (.string (tx7 (getE L s.data.toList))) w := by
  cases p with
  | none =>
    have hL := h.nil rfl
    subst hL
    have := Maps.look_nil (P := Tryz.prog) (w := w) (t := 64) false keyed7 Tryz.underlying64 (zero7 w) (key7 s hs)
    exact this
  | some b =>
    obtain ⟨v, ps, hrun, hv⟩ := (h.map b rfl).lookup keyed7 Tryz.underlying64 (zero7 w) (plainElem_string (H := Unit) Tryz.underlying9 (s := ⟨#[]⟩) (by decide)) (key7 s hs)
    obtain ⟨c, rfl, hc, _⟩ := plainElem_string_inv Tryz.underlying9 hv
    rw [hrun]
    have e : (datE L).atKey (.string s.data.toList) (.lit (.string [])) = .lit (.string (getE L s.data.toList)) := datE_at L _
    have hc' : (datE L).atKey (.string s.data.toList) (.lit (.string [])) = .lit (.string c.data.toList) := congrArg Prod.fst hc
    rw [e] at hc'
    have : getE L s.data.toList = c.data.toList := by simpa using hc'
    rw [this, tx7_back]
theorem len7 {w : World} {B : Nat} {p : Option Nat} {L : Row7} (h : Dir7 w B p L) (ty : TypeId) : (Builtin.len_ #[64] ty #[.map p]).run Tryz.prog w = .ok (.int .i64 L.length) w := by
  cases p with
  | none =>
    have hL := h.nil rfl
    subst hL
    exact Maps.len_nil Tryz.underlying64 ty
  | some b =>
    have := (h.map b rfl).len (t := 64) Tryz.underlying64 ty
    rwa [datE_size] at this
theorem nilmap7 (w : World) (p : Option Nat) : (binOp .eql 64 (.map p) (.map none)).run Tryz.prog w = .ok (.bool p.isNone) w :=
  run_eql_map_nil_sl w 64 _ _ p Tryz.underlying64

set_option maxRecDepth 100000 in
theorem new7_calls (w : World) : Calls Tryz.prog 16 #[] w fun e w' => e = .returned (.pointer (some ⟨w.heap.size, 0, none⟩)) ∧ w' = w.alloc (.cells #[.map none] 66) := by
  go_enter Tryz.func16, Tryz.ntmps16
  go_wp2
  go_ret
  exact ⟨rfl, rfl⟩
theorem dir7_new (w : World) : Dir7 (w.alloc (.cells #[.map none] 66)) w.heap.size none [] :=
  ⟨(MapKept.heap_alloc w _).1, fun _ => rfl, (fun _ h => nomatch h), List.Pairwise.nil, by simp, (fun _ h => nomatch h)⟩
end Go.Proofs.YtoeepbmbfambcaaGreatDoor

namespace Go.Proofs
open Go.Shelf
def Tryz.laysSlF06_f82_ren : Go.Shelf.Ren := ⟨fun | 6 => 82 | 15 => 104 | 14 => 103 | 28 => 125 | 29 => 126 | 20 => 117 | 21 => 118 | 22 => 119 | 23 => 120 | 24 => 121 | 25 => 122 | 26 => 123 | 27 => 124 | 46 => 133 | 47 => 134 | 48 => 135 | 49 => 136 | 50 => 137 | 57 => 140 | n => n, fun | 22 => 41 | 24 => 9 | 25 => 96 | 3 => 3 | 39 => 141 | 0 => 0 | 53 => 160 | 55 => 78 | 4 => 4 | 46 => 153 | 45 => 152 | 50 => 157 | 5 => 5 | 9 => 9 | 66 => 164 | 70 => 168 | 76 => 171 | 77 => 172 | n => n, fun | n => n⟩
theorem Tryz.laysSlF06_f82 : Go.Proofs.SlLaysF0.n6 Tryz.prog Tryz.laysSlF06_f82_ren := {
  mixed := by kernel_rfl
  f6 := ⟨Tryz.f82.name, by decide, Tryz.func82.trans (congrArg some (by kernel_rfl))⟩
  f14 := ⟨Tryz.f103.name, by decide, Tryz.func103.trans (congrArg some (by kernel_rfl))⟩
  f15 := Tryz.func104.trans (congrArg some (by kernel_rfl))
  f20 := ⟨Tryz.f117.name, by decide, Tryz.func117.trans (congrArg some (by kernel_rfl))⟩
  f21 := ⟨Tryz.f118.name, by decide, Tryz.func118.trans (congrArg some (by kernel_rfl))⟩
  f22 := ⟨Tryz.f119.name, by decide, Tryz.func119.trans (congrArg some (by kernel_rfl))⟩
  f23 := ⟨Tryz.f120.name, by decide, Tryz.func120.trans (congrArg some (by kernel_rfl))⟩
  f24 := ⟨Tryz.f121.name, by decide, Tryz.func121.trans (congrArg some (by kernel_rfl))⟩
  f25 := ⟨Tryz.f122.name, by decide, Tryz.func122.trans (congrArg some (by kernel_rfl))⟩
  f26 := ⟨Tryz.f123.name, by decide, Tryz.func123.trans (congrArg some (by kernel_rfl))⟩
  f27 := ⟨Tryz.f124.name, by decide, Tryz.func124.trans (congrArg some (by kernel_rfl))⟩
  f28 := Tryz.func125.trans (congrArg some (by kernel_rfl))
  f29 := Tryz.func126.trans (congrArg some (by kernel_rfl))
  f46 := ⟨Tryz.f133.name, by decide, Tryz.func133.trans (congrArg some (by kernel_rfl))⟩
  f47 := Tryz.func134.trans (congrArg some (by kernel_rfl))
  f48 := Tryz.func135.trans (congrArg some (by kernel_rfl))
  f49 := ⟨Tryz.f136.name, by decide, Tryz.func136.trans (congrArg some (by kernel_rfl))⟩
  f50 := ⟨Tryz.f137.name, by decide, Tryz.func137.trans (congrArg some (by kernel_rfl))⟩
  f57 := ⟨Tryz.f140.name, by decide, Tryz.func140.trans (congrArg some (by kernel_rfl))⟩
  t0 := Tryz.underlying0
  a0 := Tryz.isAgg0
  z0 := Tryz.sizeOf0
  v0 := Tryz.zeroValue0
  t3 := Tryz.underlying3
  a3 := Tryz.isAgg3
  z3 := Tryz.sizeOf3
  v3 := Tryz.zeroValue3
  t4 := Tryz.underlying4
  a4 := Tryz.isAgg4
  z4 := Tryz.sizeOf4
  v4 := Tryz.zeroValue4
  t5 := Tryz.underlying5
  a5 := Tryz.isAgg5
  z5 := Tryz.sizeOf5
  v5 := Tryz.zeroValue5
  t9 := Tryz.underlying9
  a9 := Tryz.isAgg9
  z9 := Tryz.sizeOf9
  v9 := Tryz.zeroValue9
  t22 := Tryz.underlying41
  a22 := Tryz.isAgg41
  z22 := Tryz.sizeOf41
  v22 := Tryz.zeroValue41
  t25 := Tryz.underlying96
  a25 := Tryz.isAgg96
  z25 := Tryz.sizeOf96
  v25 := Tryz.zeroValue96
  t39 := Tryz.underlying141
  a39 := Tryz.isAgg141
  z39 := Tryz.sizeOf141
  v39 := Tryz.zeroValue141
  t45 := Tryz.underlying152
  a45 := Tryz.isAgg152
  z45 := Tryz.sizeOf152
  v45 := Tryz.zeroValue152
  t46 := Tryz.underlying153
  a46 := Tryz.isAgg153
  z46 := Tryz.sizeOf153
  v46 := Tryz.zeroValue153
  t50 := Tryz.underlying157
  a50 := Tryz.isAgg157
  z50 := Tryz.sizeOf157
  v50 := Tryz.zeroValue157
  t53 := Tryz.underlying160
  a53 := Tryz.isAgg160
  z53 := Tryz.sizeOf160
  v53 := Tryz.zeroValue160
  t55 := Tryz.underlying78
  a55 := Tryz.isAgg78
  z55 := Tryz.sizeOf78
  v55 := Tryz.zeroValue78
  t66 := Tryz.underlying164
  a66 := Tryz.isAgg164
  z66 := Tryz.sizeOf164
  v66 := Tryz.zeroValue164
  t70 := Tryz.underlying168
  a70 := Tryz.isAgg168
  z70 := Tryz.sizeOf168
  v70 := Tryz.zeroValue168
  t76 := Tryz.underlying171
  a76 := Tryz.isAgg171
  z76 := Tryz.sizeOf171
  v76 := Tryz.zeroValue171
  t77 := Tryz.underlying172
  a77 := Tryz.isAgg172
  z77 := Tryz.sizeOf172
  v77 := Tryz.zeroValue172 }
open Go.RowKit Go.Lib Go.Sort in
theorem Tryz.slices_SortFunc_none {α : Type} [Inhabited α] (p : Option Addr) (cap : Nat) (fv : Value) (w : World) :
    Calls Tryz.prog 82 #[.slice p 0 cap, fv] w fun e w' => e = .returned (.tuple #[]) ∧ w' = w := AnyF.slices_SortFunc_none Tryz.laysSlF06_f82 p cap fv w
def Tryz.laysSlF6_f82_ren : Go.Shelf.Ren := ⟨fun | 6 => 82 | 15 => 104 | 14 => 103 | 28 => 125 | 29 => 126 | 20 => 117 | 21 => 118 | 22 => 119 | 23 => 120 | 24 => 121 | 25 => 122 | 26 => 123 | 27 => 124 | 46 => 133 | 47 => 134 | 48 => 135 | 49 => 136 | 50 => 137 | 57 => 140 | n => n, fun | 22 => 41 | 24 => 9 | 25 => 96 | 3 => 3 | 39 => 141 | 0 => 0 | 53 => 160 | 55 => 78 | 4 => 4 | 46 => 153 | 45 => 152 | 50 => 157 | 5 => 5 | 9 => 9 | 66 => 164 | 70 => 168 | 76 => 171 | 77 => 172 | n => n, fun | n => n⟩
theorem Tryz.laysSlF6_f82 : Go.Proofs.SlLaysF.n6 Tryz.prog Tryz.laysSlF6_f82_ren := {
  mixed := by kernel_rfl
  f6 := ⟨Tryz.f82.name, by decide, Tryz.func82.trans (congrArg some (by kernel_rfl))⟩
  f14 := ⟨Tryz.f103.name, by decide, Tryz.func103.trans (congrArg some (by kernel_rfl))⟩
  f15 := Tryz.func104.trans (congrArg some (by kernel_rfl))
  f20 := ⟨Tryz.f117.name, by decide, Tryz.func117.trans (congrArg some (by kernel_rfl))⟩
  f21 := ⟨Tryz.f118.name, by decide, Tryz.func118.trans (congrArg some (by kernel_rfl))⟩
  f22 := ⟨Tryz.f119.name, by decide, Tryz.func119.trans (congrArg some (by kernel_rfl))⟩
  f23 := ⟨Tryz.f120.name, by decide, Tryz.func120.trans (congrArg some (by kernel_rfl))⟩
  f24 := ⟨Tryz.f121.name, by decide, Tryz.func121.trans (congrArg some (by kernel_rfl))⟩
  f25 := ⟨Tryz.f122.name, by decide, Tryz.func122.trans (congrArg some (by kernel_rfl))⟩
  f26 := ⟨Tryz.f123.name, by decide, Tryz.func123.trans (congrArg some (by kernel_rfl))⟩
  f27 := ⟨Tryz.f124.name, by decide, Tryz.func124.trans (congrArg some (by kernel_rfl))⟩
  f28 := Tryz.func125.trans (congrArg some (by kernel_rfl))
  f29 := Tryz.func126.trans (congrArg some (by kernel_rfl))
  f46 := ⟨Tryz.f133.name, by decide, Tryz.func133.trans (congrArg some (by kernel_rfl))⟩
  f47 := Tryz.func134.trans (congrArg some (by kernel_rfl))
  f48 := Tryz.func135.trans (congrArg some (by kernel_rfl))
  f49 := ⟨Tryz.f136.name, by decide, Tryz.func136.trans (congrArg some (by kernel_rfl))⟩
  f50 := ⟨Tryz.f137.name, by decide, Tryz.func137.trans (congrArg some (by kernel_rfl))⟩
  f57 := ⟨Tryz.f140.name, by decide, Tryz.func140.trans (congrArg some (by kernel_rfl))⟩
  t0 := Tryz.underlying0
  a0 := Tryz.isAgg0
  z0 := Tryz.sizeOf0
  v0 := Tryz.zeroValue0
  t3 := Tryz.underlying3
  a3 := Tryz.isAgg3
  z3 := Tryz.sizeOf3
  v3 := Tryz.zeroValue3
  t4 := Tryz.underlying4
  a4 := Tryz.isAgg4
  z4 := Tryz.sizeOf4
  v4 := Tryz.zeroValue4
  t5 := Tryz.underlying5
  a5 := Tryz.isAgg5
  z5 := Tryz.sizeOf5
  v5 := Tryz.zeroValue5
  t9 := Tryz.underlying9
  a9 := Tryz.isAgg9
  z9 := Tryz.sizeOf9
  v9 := Tryz.zeroValue9
  t22 := Tryz.underlying41
  a22 := Tryz.isAgg41
  z22 := Tryz.sizeOf41
  v22 := Tryz.zeroValue41
  a24 := Tryz.isAgg9
  z24 := Tryz.sizeOf9
  t25 := Tryz.underlying96
  a25 := Tryz.isAgg96
  z25 := Tryz.sizeOf96
  v25 := Tryz.zeroValue96
  t39 := Tryz.underlying141
  a39 := Tryz.isAgg141
  z39 := Tryz.sizeOf141
  v39 := Tryz.zeroValue141
  t45 := Tryz.underlying152
  a45 := Tryz.isAgg152
  z45 := Tryz.sizeOf152
  v45 := Tryz.zeroValue152
  t46 := Tryz.underlying153
  a46 := Tryz.isAgg153
  z46 := Tryz.sizeOf153
  v46 := Tryz.zeroValue153
  t50 := Tryz.underlying157
  a50 := Tryz.isAgg157
  z50 := Tryz.sizeOf157
  v50 := Tryz.zeroValue157
  t53 := Tryz.underlying160
  a53 := Tryz.isAgg160
  z53 := Tryz.sizeOf160
  v53 := Tryz.zeroValue160
  t55 := Tryz.underlying78
  a55 := Tryz.isAgg78
  z55 := Tryz.sizeOf78
  v55 := Tryz.zeroValue78
  t66 := Tryz.underlying164
  a66 := Tryz.isAgg164
  z66 := Tryz.sizeOf164
  v66 := Tryz.zeroValue164
  t70 := Tryz.underlying168
  a70 := Tryz.isAgg168
  z70 := Tryz.sizeOf168
  v70 := Tryz.zeroValue168
  t76 := Tryz.underlying171
  a76 := Tryz.isAgg171
  z76 := Tryz.sizeOf171
  v76 := Tryz.zeroValue171
  t77 := Tryz.underlying172
  a77 := Tryz.isAgg172
  z77 := Tryz.sizeOf172
  v77 := Tryz.zeroValue172 }
open Go.RowKit Go.Lib Go.Sort in
theorem Tryz.slices_SortFunc_total {α : Type} [Inhabited α] (enc : α → Value) (h1 : OneCell enc) (cf : α → α → Int) (hO : SWO (ltOf cf)) (g : Nat) (cb : Array Value) (blk off cap : Nat) (d : Array α) (w : World) (eg : ∀ args w, (callFunc g args).run Tryz.prog w = .ok (.enter g args) w) (hcmp : CmpLays1 Tryz.prog g cb enc cf blk off d.size w) (hH : Holds enc w blk off d) (hblk : blk < w.heap.size) (hsz : d.size < 4611686018427387904) (hT : ∀ x y, (ltOf cf) x y = false → (ltOf cf) y x = false → x = y) :
    Calls Tryz.prog 82 #[.slice (some ⟨blk, off, none⟩) d.size cap, .func (.func g) #[] cb] w fun e w' =>
      e = .returned (.tuple #[]) ∧ ∃ n os, w' = sortWorld enc w blk off n (d.toList.mergeSort fun x y => !(ltOf cf) y x).toArray os := Any.slices_SortFunc_total Tryz.laysSlF6_f82 enc h1 cf hO g cb blk off cap d w eg hcmp hH hblk hsz hT
end Go.Proofs

namespace Go.Proofs.YtoeepbmbfambcaaGreatDoor
open Go.RowKit Go.Maps Go.Sort Go.Shelf

theorem lt7 (x y : List UInt8) : ltOf Lib.compareBytes x y = bytesBefore x y := before_cmp x y
theorem swo7 : SWO (ltOf Lib.compareBytes) where
  irrefl x := by rw [lt7]; exact before_irrefl x
  trans x y z h1 h2 := by rw [lt7] at *; exact WideShapes.bytes_trans _ _ _ h1 h2
  ntrans x y z h1 h2 := by
    rw [lt7] at *
    cases h : bytesBefore x z
    · rfl
    · by_cases e : x = y
      · subst e; rw [h] at h2; cases h2
      · rcases WideAt.bytes_total x y e with h' | h'
        · rw [h'] at h1; cases h1
        · rw [WideShapes.bytes_trans _ _ _ h' h] at h2; cases h2
theorem tot7 (x y : List UInt8) (h1 : ltOf Lib.compareBytes x y = false) (h2 : ltOf Lib.compareBytes y x = false) : x = y := by
  rw [lt7] at *
  by_cases e : x = y
  · exact e
  · rcases WideAt.bytes_total x y e with h' | h'
    · rw [h'] at h1; cases h1
    · rw [h'] at h2; cases h2
theorem cmp7 (blk off size : Nat) (w : World) : CmpLays1 Tryz.prog 54 #[] encStr Lib.compareBytes blk off size w :=
  CmpReads.lays fun _ _ _ _ x y => (compare_calls ⟨x.toArray⟩ ⟨y.toArray⟩ _).mono fun e w' ⟨he, hw⟩ => ⟨by rw [he], 0, hw⟩

set_option maxRecDepth 100000 in
set_option maxHeartbeats 1000000 in
/-- slices.SortedFunc of what an iterator gives, by name.Compare. -/
theorem sortedf7_calls (g : Nat) (lb : Array Value) (S : List (List UInt8) → Prop) (N : Nat) (w : World) (eg : ∀ args w, (callFunc g args).run Tryz.prog w = .ok (.enter g args) w) (hN : N ≤ 1000) (hSN : ∀ ss, S ss → ss.length ≤ 1000) (hseq : SeqGives Fence.wide 2 Tryz.prog g lb encStr S N w) :
    Calls Tryz.prog 52 #[.func (.func g) #[] lb, .func (.func 54) #[] #[]] w fun e w' => ∃ (v : Value) (ss : List (List UInt8)), e = .returned v ∧ S ss ∧
      w'.ownsRow w.heap.size 9 1 v ss.length ((ss.mergeSort (fun x y => !(ltOf Lib.compareBytes) y x)).map encStr) ∧ (v = .slice none 0 0 ↔ ss = []) ∧ Below w.heap.size w w' := by
  have cC : Calls Tryz.prog 81 #[.func (.func g) #[] lb] w fun e w' => ∃ (v : Value) (ss : List (List UInt8)), e = .returned v ∧ S ss ∧ w'.ownsRow w.heap.size 9 1 v ss.length (ss.map encStr) ∧ (v = .slice none 0 0 ↔ ss = []) ∧ Below w.heap.size w w' :=
    (callsIn_wide (n := 4)).1 (AnyZ.collect_in Tryz.collect7 Fence.wide 4 trivial trivial rfl (by omega) g lb trivial eg S N (Nat.le_trans hN (by decide)) (by omega) w hseq)
  have HC := Lib.hid cC
  have HS : Hid (∀ (blk cap : Nat) (ss : List (List UInt8)) (W : World), Holds encStr W blk 0 ss.toArray → blk < W.heap.size → ss.length < 4611686018427387904 →
      Calls Tryz.prog 82 #[.slice (some ⟨blk, 0, none⟩) ss.length cap, .func (.func 54) #[] #[]] W fun e w' => e = .returned (.tuple #[]) ∧ ∃ n os, w' = grow (putRow encStr (Sort.ahead W n) blk 0 (ss.mergeSort fun x y => !(ltOf Lib.compareBytes) y x).toArray) os) := fun blk cap ss W hH hb hl => by
    have := Tryz.slices_SortFunc_total encStr (fun _ => rfl) Lib.compareBytes swo7 54 #[] blk 0 cap ss.toArray W (enters_of Tryz.func54 (by kernel_rfl) rfl) (cmp7 blk 0 _ W) hH hb (by simpa using hl) tot7
    simpa [sortWorld] using this
  have HS0 : Hid (∀ (cap : Nat) (W : World), Calls Tryz.prog 82 #[.slice none 0 cap, .func (.func 54) #[] #[]] W fun e w' => e = .returned (.tuple #[]) ∧ w' = W) := fun cap W => Tryz.slices_SortFunc_none (α := List UInt8) none cap _ W
  clear cC hseq
  go_enter Tryz.func52, Tryz.ntmps52
  go_wp2_with fail
  with_reducible refine HC.out.mono ?_
  rintro e W ⟨v, ss, rfl, hS, hrow, hnil, hb⟩
  have hln := hSN _ hS
  have HSS := Lib.hid hS
  have HNL := Lib.hid hnil
  have HB := Lib.hid hb
  have HR := Lib.hid hrow
  clear hS hnil hb HC
  rcases hrow.2 with ⟨rfl, hz⟩ | ⟨gb, cap, cur, rfl, hbase, hgb, r1, r2, r3, r4⟩
  · have hss : ss = [] := List.eq_nil_of_length_eq_zero hz
    subst hss
    clear hrow hz hln hSN
    go_wp2_with (go_at_call 82; (with_reducible refine (HS0.out _ _).mono ?_); rintro e w' ⟨rfl, rfl⟩)
    go_ret
    exact ⟨.slice none 0 0, [], rfl, HSS.out, by simpa using HR.out, by simp, HB.out⟩
  · have hH : Holds encStr W gb 0 ss.toArray := holds_of_block hgb (by simpa using r4)
    have hgl : gb < W.heap.size := (Array.getElem?_eq_some_iff.1 hgb).1
    have cS := Lib.hid (HS.out gb cap ss W hH hgl (by omega))
    have HF : Hid (∀ n os, (grow (putRow encStr (Sort.ahead W n) gb 0 (ss.mergeSort fun x y => !(ltOf Lib.compareBytes) y x).toArray) os).ownsRow w.heap.size 9 1 (.slice (some ⟨gb, 0, none⟩) ss.length cap) ss.length ((ss.mergeSort (fun x y => !(ltOf Lib.compareBytes) y x)).map encStr) ∧
        Below w.heap.size w (grow (putRow encStr (Sort.ahead W n) gb 0 (ss.mergeSort fun x y => !(ltOf Lib.compareBytes) y x).toArray) os)) := fun n os =>
      ⟨ownsRow_sorted (by simp) hbase hgb r1 r2 r3, HB.out.grown (grownBy_sorted _) HB.out.size (fun j hj => by cases hj; exact hbase)⟩
    clear hrow hbase hgb r1 r2 r3 r4 hH hgl HR HB HS HS0
    generalize hts : (ss.mergeSort fun x y => !(ltOf Lib.compareBytes) y x) = ts at cS HF
    have HT := Lib.hid hts
    clear hts hln hSN
    generalize hn : ss.length = n at *
    go_wp2_with (go_at_call 82; (with_reducible refine cS.out.mono ?_); rintro e w' ⟨rfl, nn, os, rfl⟩)
    go_ret
    subst hn
    refine ⟨_, ss, rfl, HSS.out, ?_, HNL.out, (HF.out nn os).2⟩
    rw [HT.out]
    exact (HF.out nn os).1

/-- What names tells: a new row, nil if there is none. -/
def Names7 (L : Row7) (w : World) (e : Ending) (w' : World) : Prop :=
  ∃ v, e = .returned v ∧ w'.ownsRow w.heap.size 9 1 v L.length ((L.map (·.1)).map encStr) ∧ (v = .slice none 0 0 ↔ L = []) ∧ Below w.heap.size w w'

set_option maxRecDepth 100000 in
set_option maxHeartbeats 1000000 in
theorem names7_calls (B : Nat) (p : Option Nat) (L : Row7) (w : World) (hd : Dir7 w B p L) : Calls Tryz.prog 32 #[.pointer (some ⟨B, 0, none⟩)] w (Names7 L w) := by
  have eg : ∀ args w, (callFunc 83 args).run Tryz.prog w = .ok (.enter 83 args) w := enters_of Tryz.func83 (by kernel_rfl) rfl
  have bl : Below w.heap.size w (w.alloc (.cells #[.map p] 64)) := below_alloc (Below.refl _ _) _
  have cS : ∃ S : List (List UInt8) → Prop, (∀ ss, S ss → ss.Perm (L.map (·.1))) ∧ SeqGives Fence.wide 2 Tryz.prog 83 #[.pointer (some ⟨w.heap.size, 0, none⟩)] encStr S L.length (w.alloc (.cells #[.map p] 64)) := by
    cases p with
    | none =>
      have hL := hd.nil rfl
      subst hL
      exact ⟨fun ss => ss = [], fun ss h => by subst h; exact List.Perm.refl _, AnyZ.keys_gives_nil (ρ := Tryz.keys7_ren) { Tryz.keys7 with } Fence.wide 2 trivial rfl w.heap.size _ (by simp) (by simp)⟩
    | some b =>
      have hown := (hd.map b rfl).alloc (.cells #[.map (some b)] 64)
      have h := AnyZ.keys_gives (ρ := Tryz.keys7_ren) { Tryz.keys7 with } Fence.wide 2 trivial rfl (by omega) w.heap.size b _ (datE L) _ (by simp) (by simp) hown
      rw [datE_size] at h
      exact ⟨_, fun ss h => by rw [datE_keys] at h; exact h, h⟩
  obtain ⟨S, hS, hseq⟩ := cS
  have HK : Hid (Calls Tryz.prog 53 #[.map p] w fun e w' => e = .returned (.func (.func 83) #[] #[.pointer (some ⟨w.heap.size, 0, none⟩)]) ∧ w' = w.alloc (.cells #[.map p] 64)) :=
    (callsIn_wide (n := 4)).1 (AnyZ.keys_in Tryz.keys7 Fence.wide 4 trivial rfl p w)
  have HSF := Lib.hid (sortedf7_calls _ _ S L.length _ eg (by have := hd.few; omega) (fun ss h => by rw [(hS ss h).length_eq, List.length_map]; have := hd.few; omega) hseq)
  have HSS : Hid (∀ ss, S ss → ss.length = L.length ∧ ss.mergeSort (fun x y => !(ltOf Lib.compareBytes) y x) = L.map (·.1)) := fun ss h => by
    have hp := hS ss h
    exact ⟨by rw [hp.length_eq, List.length_map], sort_names hd.rise hp _ (fun x y => by rw [lt7])⟩
  have hc := hd.cell
  have BL := Lib.hid bl
  clear hseq hS hd bl
  go_enter Tryz.func32, Tryz.ntmps32
  go_wp2_with fail
  with_reducible refine HK.out.mono ?_
  rintro e w1 ⟨rfl, rfl⟩
  go_wp2_with fail
  with_reducible refine HSF.out.mono ?_
  rintro e w2 ⟨v, ss, rfl, hss, hrow, hnil, hb⟩
  obtain ⟨hl, hm⟩ := HSS.out ss hss
  have HF : Hid (Names7 L w (.returned v) w2) := by
    rw [hl, hm] at hrow
    refine ⟨v, rfl, ownsRow_base_a hrow (by simp), ?_, below_next BL.out hb⟩
    rw [hnil]
    constructor
    · intro e; subst e; exact List.eq_nil_of_length_eq_zero hl.symm
    · intro e; subst e; exact List.eq_nil_of_length_eq_zero hl
  clear hss hrow hnil hb hl hm HSS HSF HK hc BL
  go_wp2
  go_ret
  exact HF.out
end Go.Proofs.YtoeepbmbfambcaaGreatDoor

namespace Go.Proofs.YtoeepbmbfambcaaGreatDoor
open Go.RowKit Go.Maps

theorem dir7_stored {w : World} {B b n : Nat} {p : Option Nat} {L' : Row7} (hblk : w.heap[B]? = some (.cells #[.map p] 66 (0, 0))) (hp : p = some b) (hm : w.ownsMap Tryz.prog 9 (plainElem Tryz.prog 9) b n (datE L')) (hr : Rise7 L') (hf : L'.length ≤ 12) (ha : ∀ q ∈ L', q.1.length ≤ 12 ∧ q.2.length ≤ 12) : Dir7 w B p L' :=
  ⟨hblk, (fun h => by rw [hp] at h; cases h), fun b' hb' => by rw [hp] at hb'; cases hb'; exact Map7.of hm, hr, hf, ha⟩
theorem mem_put {L : Row7} {k v : List UInt8} {q : List UInt8 × List UInt8} (h : q ∈ putE L k v) : q = (k, v) ∨ q ∈ L := by
  unfold putE at h
  exact (mem_ins.1 h).imp id (fun h => (mem_del.1 h).1)
theorem turned_cells {w w' : World} {B b : Nat} (h : w.mapTurned w' b) (hne : b ≠ B) : w'.heap[B]? = w.heap[B]? := by
  obtain ⟨es, clock, es', clock', _, rfl⟩ := h
  exact ChangeMaps.heap_setBlock_other (by assumption) _ (fun e => hne e.symm)

set_option maxRecDepth 100000 in
theorem dput_calls (B : Nat) (p : Option Nat) (L : Row7) (s h : ByteArray) (w : World) (hd : Dir7 w B p L) (hs : s.size ≤ 12) (hh : h.size ≤ 12) (hf : (putE L s.data.toList h.data.toList).length ≤ 12) :
    Calls Tryz.prog 38 #[.pointer (some ⟨B, 0, none⟩), .string s, .string h] w fun e w' => e = .returned (.tuple #[]) ∧ Goes7 w B p (putE L s.data.toList h.data.toList) w' := by
  have hs' : s.size ≤ maxLen := Nat.le_trans hs (by decide)
  have hh' : h.size ≤ maxLen := Nat.le_trans hh (by decide)
  have hall : ∀ q ∈ putE L s.data.toList h.data.toList, q.1.length ≤ 12 ∧ q.2.length ≤ 12 := fun q hq => by
    rcases mem_put hq with rfl | hq
    · exact ⟨by rw [size_list]; exact hs, by rw [size_list]; exact hh⟩
    · exact hd.all q hq
  have hrise := rise_put hd.rise s.data.toList h.data.toList
  cases p with
  | some b =>
    obtain ⟨w1, hrun, hown, hturn⟩ := (hd.map b rfl).store keyed7 Tryz.underlying64 (Nat.lt_of_le_of_lt hd.few (by decide)) (key7 s hs') (plainElem_string (H := Unit) Tryz.underlying9 hh')
    rw [datE_put] at hown
    have hne := hd.apart b rfl
    have HG : Hid (Goes7 w B (some b) (putE L s.data.toList h.data.toList) w1) := by
      refine ⟨some b, dir7_stored ((turned_cells hturn hne).trans hd.blk) rfl hown hrise hf hall, (fun b' hb' => .inl hb'), ?_⟩
      exact (Turns.refl _ w).grown hturn.grown (fun k hk _ => .inr hk)
    have hq := nilmap7 w (some b)
    have hc := hd.cell
    clear hd hown hturn hall hrise hf
    go_enter Tryz.func38, Tryz.ntmps38
    go_wp2
    go_end0
    exact ⟨rfl, HG.out⟩
  | none =>
    have hL := hd.nil rfl
    subst hL
    have hBl := hd.lt
    have hsz : (w.setCell ⟨B, 0, none⟩ (.map (some w.heap.size))).heap.size = w.heap.size := by simp [World.setCell]
    have h1 := World.ownsMap_made (H := Unit) (w.setCell ⟨B, 0, none⟩ (.map (some w.heap.size))) Tryz.prog 9 (plainElem Tryz.prog 9)
    rw [hsz] at h1
    obtain ⟨w1, hrun, hown, hturn⟩ := h1.store keyed7 Tryz.underlying64 (by decide) (key7 s hs') (plainElem_string (H := Unit) Tryz.underlying9 hh')
    have e0 : (.map [] : DataW Unit) = datE [] := rfl
    rw [e0, datE_put] at hown
    have hblk1 := heap_setCell_box_a (.map (some w.heap.size)) hd.blk
    have hblk2 : ((w.setCell ⟨B, 0, none⟩ (.map (some w.heap.size))).alloc (.map #[] 0)).heap[B]? = some (.cells #[.map (some w.heap.size)] 66 (0, 0)) := (Below.heap_alloc _ _ B (by omega)).trans hblk1
    have HG : Hid (Goes7 w B none (putE [] s.data.toList h.data.toList) w1) := by
      refine ⟨some w.heap.size, dir7_stored ((turned_cells hturn (by omega)).trans hblk2) rfl hown hrise hf hall, (fun b' hb' => .inr (by cases hb'; exact Nat.le_refl _)), ?_⟩
      exact (((Turns.refl _ w).setCell (p := ⟨B, 0, none⟩) (fun _ => .inl rfl) _).alloc _).grown hturn.grown (fun k hk hlt => by cases hk; omega)
    have hq := nilmap7 w none
    have hc := hd.cell
    have hf0 := hd.frozen
    obtain ⟨hc2, hf2⟩ := cell_of_box_a hblk2
    have hmm := @run_makeMap Tryz.prog
    clear hd hown hturn hall hrise hf h1 hblk1 hblk2 e0 hsz
    go_enter Tryz.func38, Tryz.ntmps38
    go_wp2
    go_end0
    exact ⟨rfl, HG.out⟩
end Go.Proofs.YtoeepbmbfambcaaGreatDoor

namespace Go.Proofs.YtoeepbmbfambcaaGreatDoor
open Go.RowKit

section
variable {P : Program} {ops : Array Oper} {Q : Exit → Act → World → Prop}

/-- What operation i waits for. -/
def depsL (ops : Array Oper) (i : Nat) : List Nat := match ops[i]? with
  | some o => (o.after.toList.filter (Region.binds .any)).map (·.on)
  | none => []
/-- .. and what these wait for, from j on downwards. -/
def ancL (ops : Array Oper) : Nat → List Nat → List Nat
  | 0, S => S
  | j + 1, S => ancL ops j (if S.contains j then S ++ depsL ops j else S)

theorem deps_true {o : Oper} {i : Nat} {L : Nat → Bool} (ho : ops[i]? = some o) (h : ∀ d, (o.after.toList.any fun e => Region.binds .any e && e.on == d) = true → L d = true) : ∀ a ∈ depsL ops i, L a = true := by
  intro a ha
  unfold depsL at ha
  rw [ho] at ha
  obtain ⟨e, he, rfl⟩ := List.mem_map.1 ha
  obtain ⟨h1, h2⟩ := List.mem_filter.1 he
  exact h _ (List.any_eq_true.2 ⟨e, h1, by simp [h2]⟩)
theorem closed_deps {L : Nat → Bool} (hc : Closed .any ops L) {i : Nat} (hi : L i = true) : ∀ a ∈ depsL ops i, L a = true := by
  cases ho : ops[i]? with
  | none => intro a ha; unfold depsL at ha; rw [ho] at ha; cases ha
  | some o => exact deps_true ho (hc i o ho hi)
theorem anc_true {L : Nat → Bool} (hc : Closed .any ops L) : ∀ (j : Nat) (S : List Nat), (∀ a ∈ S, L a = true) → ∀ a ∈ ancL ops j S, L a = true
  | 0, _, h, a, ha => h a ha
  | j + 1, S, h, a, ha => by
    unfold ancL at ha
    refine anc_true hc j _ ?_ a ha
    intro b hb
    split at hb
    · rename_i hj
      rcases List.mem_append.1 hb with hb | hb
      · exact h b hb
      · exact closed_deps hc (h j (by simpa using hj)) b hb
    · exact h b hb

theorem closed_upd {L : Nat → Bool} (hc : Closed .any ops L) {i : Nat} {o : Oper} (ho : ops[i]? = some o) (hd : ∀ d, (o.after.toList.any fun e => Region.binds .any e && e.on == d) = true → L d = true) : Closed .any ops (updL L i) := by
  intro j oj hoj hLj d hdd
  unfold updL at hLj ⊢
  by_cases e : d = i
  · rw [if_pos e]
  · rw [if_neg e]
    by_cases ej : j = i
    · subst ej
      rw [ho] at hoj
      injection hoj with hoj
      subst hoj
      exact hd d hdd
    · rw [if_neg ej] at hLj
      exact hc j oj hoj hLj d hdd

theorem allO_at {φ : Nat → Oper → Prop} : ∀ {l : List Oper} {k : Nat}, (∀ i o, l[i]? = some o → φ (k + i) o) → AllO φ l k
  | [], _, _ => trivial
  | x :: r, k, h => ⟨h 0 x rfl, allO_at fun i o ho => by
    have := h (i + 1) o (by simpa using ho)
    rwa [show k + (i + 1) = k + 1 + i by omega] at this⟩
theorem allO_of {φ : Nat → Oper → Prop} {l : List Oper} (h : ∀ i o, l[i]? = some o → φ i o) : AllO φ l 0 := allO_at fun i o ho => by
  rw [Nat.zero_add]; exact h i o ho

theorem wp_region_last {id : Nat} {w : World} {a : Act} (hm : P.follows .mixedOrders = true) (last : Nat) (R D : World → Prop) (Y : Nat → Value → World → Prop) (Z : Value → Prop) (F : (Nat → Value) → Act) (hF : ∀ x, putL (ops.toList.map (·.dst)) x 0 a = F x)
    (hap : apartL (ops.toList.map (·.dst)) = true) (hback : (ops.toList.zipIdx.all fun p => p.1.after.all fun e => !(Region.binds .any e) || decide (e.on < p.2)) = true)
    (hanc : ((List.range last).all fun i => (ancL ops last (depsL ops last)).contains i) = true) (hbeh : ((List.range ops.size).all fun j => decide (j ≤ last) || (ancL ops j (depsL ops j)).contains last) = true) (hlt : last < ops.size) (hR : R w.drew)
    (step : AllO (fun i o => ∀ (x : Nat → Value) (w : World),
      (i < last → R w → (∀ j, (o.after.toList.any fun e => Region.binds .any e && e.on == j) = true → Y j (x j) w) →
        ∀ K : Act → World → Prop, (∀ v w', Y i v w' → R w' → (∀ j u, Y j u w → Y j u w') → K ((F x).put o.dst v) w') →
          if Region.wanted o (yielded ops (F x).tmps) = true then Oper.wp P o (F x) w K Q else K ((F x).put o.dst undef) w) ∧
      (i = last → R w → (∀ j, (o.after.toList.any fun e => Region.binds .any e && e.on == j) = true → Y j (x j) w) →
        ∀ K : Act → World → Prop, (∀ v w', Z v → D w' → K ((F x).put o.dst v) w') →
          if Region.wanted o (yielded ops (F x).tmps) = true then Oper.wp P o (F x) w K Q else K ((F x).put o.dst undef) w) ∧
      (last < i → D w → (∀ j, (o.after.toList.any fun e => Region.binds .any e && e.on == j) = true → last ≤ j → Z (x j)) →
        ∀ K : Act → World → Prop, (∀ v, Z v → K ((F x).put o.dst v) w) →
          if Region.wanted o (yielded ops (F x).tmps) = true then Oper.wp P o (F x) w K Q else K ((F x).put o.dst undef) w)) ops.toList 0)
    (fin : ∀ (x : Nat → Value) (w : World), D w → (∀ j, last ≤ j → j < ops.size → Z (x j)) → Q .normal (F x) w) : (Code.region id ops true).wp P Q a w := by
  refine wp_region_gen hm (fun L x W => Closed .any ops L ∧ (∀ j, L j = true → j < ops.size) ∧ ((L last = false ∧ R W ∧ ∀ j, L j = true → Y j (x j) W) ∨ (L last = true ∧ D W ∧ ∀ j, L j = true → last ≤ j → Z (x j)))) F hF hap hback
    (fun _ => ⟨(fun _ _ _ h => nomatch h), (fun _ h => nomatch h), .inl ⟨rfl, hR, (fun _ h => nomatch h)⟩⟩) ?_ ?_
  · have hat := fun i o h => step.at_ i o h
    have gen : ∀ (i : Nat) (o : Oper), ops.toList[i]? = some o → ∀ (L : Nat → Bool) (x : Nat → Value) (w : World), L i = false → (∀ d, (o.after.toList.any fun e => Region.binds .any e && e.on == d) = true → L d = true) →
        (Closed .any ops L ∧ (∀ j, L j = true → j < ops.size) ∧ ((L last = false ∧ R w ∧ ∀ j, L j = true → Y j (x j) w) ∨ (L last = true ∧ D w ∧ ∀ j, L j = true → last ≤ j → Z (x j)))) →
        ∀ K : Act → World → Prop, (∀ v w', (Closed .any ops (updL L i) ∧ (∀ j, updL L i j = true → j < ops.size) ∧ ((updL L i last = false ∧ R w' ∧ ∀ j, updL L i j = true → Y j (upd x i v j) w') ∨ (updL L i last = true ∧ D w' ∧ ∀ j, updL L i j = true → last ≤ j → Z (upd x i v j)))) → K ((F x).put o.dst v) w') →
          if Region.wanted o (yielded ops (F x).tmps) = true then Oper.wp P o (F x) w K Q else K ((F x).put o.dst undef) w := by
      intro i o ho L x w hLi hd hI K hK
      have ho' : ops[i]? = some o := by simpa using ho
      have hisz : i < ops.size := (Array.getElem?_eq_some_iff.1 ho').1
      obtain ⟨hcl, hsz, hI⟩ := hI
      have hcu := closed_upd hcl ho' hd
      have hsu : ∀ j, updL L i j = true → j < ops.size := by
        intro j hj
        unfold updL at hj
        by_cases e : j = i
        · rw [e]; exact hisz
        · rw [if_neg e] at hj; exact hsz j hj
      obtain ⟨s1, s2, s3⟩ := hat i o ho x w
      rw [Nat.zero_add] at s1 s2 s3
      have hbl : ∀ j, last < j → j < ops.size → last ∈ ancL ops j (depsL ops j) := by
        intro j h1 h2
        have := List.all_eq_true.1 hbeh j (List.mem_range.2 h2)
        rw [decide_eq_false (by omega), Bool.false_or] at this
        simpa using this
      rcases hI with ⟨h0, hRw, hY⟩ | ⟨h1, hDw, hZ⟩
      · rcases Nat.lt_trichotomy i last with hil | rfl | hil
        · refine s1 hil hRw (fun j hj => hY j (hd j hj)) K fun v w' hy hr hk => hK v w' ⟨hcu, hsu, .inl ⟨?_, hr, ?_⟩⟩
          · rw [show updL L i last = L last from if_neg (by omega)]; exact h0
          · intro j hj
            by_cases e : j = i
            · subst e; rw [show upd x j v j = v from if_pos rfl]; exact hy
            · rw [show upd x i v j = x j from if_neg e]
              rw [show updL L i j = L j from if_neg e] at hj
              exact hk j _ (hY j hj)
        · refine s2 rfl hRw (fun j hj => hY j (hd j hj)) K fun v w' hz hdw => hK v w' ⟨hcu, hsu, .inr ⟨if_pos rfl, hdw, ?_⟩⟩
          intro j hj hle
          by_cases e : j = i
          · subst e; rw [show upd x j v j = v from if_pos rfl]; exact hz
          · rw [show updL L i j = L j from if_neg e] at hj
            have := anc_true hcl j _ (closed_deps hcl hj) i (hbl j (by omega) (hsz j hj))
            rw [hLi] at this
            cases this
        · exfalso
          have := anc_true hcl i _ (deps_true ho' hd) last (hbl i hil hisz)
          rw [h0] at this
          cases this
      · rcases Nat.lt_trichotomy i last with hil | rfl | hil
        · exfalso
          have h2 := List.all_eq_true.1 hanc i (List.mem_range.2 hil)
          have := anc_true hcl last _ (closed_deps hcl h1) i (by simpa using h2)
          rw [hLi] at this
          cases this
        · rw [hLi] at h1; cases h1
        · refine s3 hil hDw (fun j hj hle => hZ j (hd j hj) hle) K fun v hz => hK v w ⟨hcu, hsu, .inr ⟨?_, hDw, ?_⟩⟩
          · rw [show updL L i last = L last from if_neg (by omega)]; exact h1
          · intro j hj hle
            by_cases e : j = i
            · subst e; rw [show upd x j v j = v from if_pos rfl]; exact hz
            · rw [show upd x i v j = x j from if_neg e]
              rw [show updL L i j = L j from if_neg e] at hj
              exact hZ j hj hle
    exact allO_of gen
  · intro L x w hall ⟨_, _, hI⟩
    rcases hI with ⟨h0, _⟩ | ⟨_, hDw, hZ⟩
    · rw [hall last hlt] at h0; cases h0
    · exact fin x w hDw (fun j h1 h2 => hZ j (hall j h2) h1)
end
end Go.Proofs.YtoeepbmbfambcaaGreatDoor

namespace Go.Proofs.YtoeepbmbfambcaaGreatDoor
open Go.RowKit Go.Maps

/-- Askers in a row, in memory. -/
def Asks7 (W : World) (v : Value) (es : List Int) : Prop := ∃ G l, v = .slice (some ⟨G, 0, none⟩) es.length es.length ∧ l.map (·.2) = es ∧ AskRow7 W G l
theorem Asks7.below {W W' : World} {v : Value} {es : List Int} (h : Asks7 W v es) (hb : Below W.heap.size W W') : Asks7 W' v es := by
  obtain ⟨G, l, e, h1, h2⟩ := h
  exact ⟨G, l, e, h1, h2.later hb⟩
theorem asks7_new (W : World) (l : List (Value × Int)) (t : TypeId) (ha : ∀ x ∈ l, Ask7 x.1 x.2 W) : Asks7 (W.alloc (.cells (l.map (·.1)).toArray t)) (.slice (some ⟨W.heap.size, 0, none⟩) (l.map (·.2)).length (l.map (·.2)).length) (l.map (·.2)) := by
  refine ⟨_, l, rfl, rfl, by simp, fun j hj => ⟨?_, (ha _ (List.getElem_mem hj)).later (below_alloc (Below.refl _ _) _)⟩⟩
  rw [World.cell?_alloc_at _ _ _ _ rfl]
  simp [hj]

/-- Three variables in blocks of their own: the directory, a name, a sum. -/
structure Box7 (W : World) (b0 B : Nat) (n h : ByteArray) : Prop where
  lt : b0 + 2 < W.heap.size
  c0 : W.cell? ⟨b0, 0, none⟩ = some (.pointer (some ⟨B, 0, none⟩))
  c1 : W.cell? ⟨b0 + 1, 0, none⟩ = some (.string n)
  c2 : W.cell? ⟨b0 + 2, 0, none⟩ = some (.string h)
theorem Box7.later {W W' : World} {b0 B : Nat} {n h : ByteArray} (hx : Box7 W b0 B n h) (hb : Below W.heap.size W W') : Box7 W' b0 B n h :=
  have := hx.lt
  ⟨Nat.lt_of_lt_of_le hx.lt hb.size, (hb.cell (p := ⟨b0, 0, none⟩) (by show b0 < _; omega)).trans hx.c0, (hb.cell (p := ⟨b0 + 1, 0, none⟩) (by show b0 + 1 < _; omega)).trans hx.c1, (hb.cell (p := ⟨b0 + 2, 0, none⟩) (by show b0 + 2 < _; omega)).trans hx.c2⟩
theorem box7_new (w : World) (B : Nat) (n h : ByteArray) : Box7 (((w.alloc (.cells #[.pointer (some ⟨B, 0, none⟩)] 24)).alloc (.cells #[.string n] 9)).alloc (.cells #[.string h] 9)) w.heap.size B n h := by
  refine ⟨by simp, ?_, ?_, ?_⟩
  · rw [World.cell?_alloc_past _ _ _ (by simp; omega), World.cell?_alloc_past _ _ _ (by simp), World.cell?_alloc_at _ _ _ _ rfl]; rfl
  · rw [World.cell?_alloc_past _ _ _ (by simp), World.cell?_alloc_at _ _ _ _ (by simp)]; rfl
  · rw [World.cell?_alloc_at _ _ _ _ (by simp)]; rfl

/-- What is asked ahead of one more, of another sum; of one less. -/
def crE (L : Row7) (n h : List UInt8) : Int := first7 [err5 (name5 n) 10, err5 (hash5 h) 4, err5 (!hasE L n) 9, err5 (decide ((L.length : Int) + 1 ≤ 12)) 7]
def seE (L : Row7) (n h : List UInt8) : Int := first7 [err5 (name5 n) 10, err5 (hash5 h) 4, err5 (hasE L n) 8]
def deE (L : Row7) (n : List UInt8) : Int := first7 [err5 (name5 n) 10, err5 (hasE L n) 8]
def crL (L : Row7) (n h : List UInt8) : Row7 := if crE L n h = 0 then putE L n h else L
def seL (L : Row7) (n h : List UInt8) : Row7 := if seE L n h = 0 then putE L n h else L
def deL (L : Row7) (n : List UInt8) : Row7 := if deE L n = 0 then delE L n else L
theorem err7_zero {b : Bool} {n : Int} (hn : n ≠ 0) : err5 b n = 0 ↔ b = true := by cases b <;> simp [err5, hn]
theorem first7_cons {e : Int} {l : List Int} (h : first7 (e :: l) = 0) : e = 0 ∧ first7 l = 0 := by
  unfold first7 at h
  split at h
  · exact ⟨by assumption, h⟩
  · exact absurd h (by assumption)
theorem name7_size {n : ByteArray} (h : name5 n.data.toList = true) : n.size ≤ 12 := by
  unfold name5 pref5 at h
  simp only [Bool.and_eq_true, decide_eq_true_eq] at h
  have := h.1.1.2.1
  rwa [size_list] at this
theorem hash7_size {n : ByteArray} (h : hash5 n.data.toList = true) : n.size ≤ 12 := by
  unfold hash5 at h
  simp only [Bool.and_eq_true, decide_eq_true_eq] at h
  have := h.1.2
  rwa [size_list] at this
theorem crE_zero {L : Row7} {n h : List UInt8} (e : crE L n h = 0) : name5 n = true ∧ hash5 h = true ∧ hasE L n = false ∧ L.length + 1 ≤ 12 := by
  obtain ⟨e1, e⟩ := first7_cons e
  obtain ⟨e2, e⟩ := first7_cons e
  obtain ⟨e3, e⟩ := first7_cons e
  obtain ⟨e4, _⟩ := first7_cons e
  have := (err7_zero (by decide)).1 e4
  rw [decide_eq_true_eq] at this
  exact ⟨(err7_zero (by decide)).1 e1, (err7_zero (by decide)).1 e2, by simpa using (err7_zero (by decide)).1 e3, by omega⟩
theorem seE_zero {L : Row7} {n h : List UInt8} (e : seE L n h = 0) : name5 n = true ∧ hash5 h = true ∧ hasE L n = true := by
  obtain ⟨e1, e⟩ := first7_cons e
  obtain ⟨e2, e⟩ := first7_cons e
  obtain ⟨e3, _⟩ := first7_cons e
  exact ⟨(err7_zero (by decide)).1 e1, (err7_zero (by decide)).1 e2, (err7_zero (by decide)).1 e3⟩
theorem deE_zero {L : Row7} {n : List UInt8} (e : deE L n = 0) : name5 n = true ∧ hasE L n = true := by
  obtain ⟨e1, e⟩ := first7_cons e
  obtain ⟨e2, _⟩ := first7_cons e
  exact ⟨(err7_zero (by decide)).1 e1, (err7_zero (by decide)).1 e2⟩

theorem del7 {w : World} {B : Nat} {p : Option Nat} {L : Row7} (hd : Dir7 w B p L) (s : ByteArray) (hs : s.size ≤ maxLen) :
    ∃ w', (Builtin.delete_ #[64, 9] 0 #[.map p, .string s]).run Tryz.prog w = .ok (.tuple #[]) w' ∧ Goes7 w B p (delE L s.data.toList) w' := by
  cases p with
  | none =>
    have hL := hd.nil rfl
    subst hL
    exact ⟨w, Maps.drop_nil keyed7 Tryz.underlying64 (key7 s hs) _, Goes7.still hd (Below.refl _ _)⟩
  | some b =>
    obtain ⟨w1, hrun, hown, hturn⟩ := (hd.map b rfl).drop keyed7 Tryz.underlying64 (key7 s hs) 0
    rw [datE_del] at hown
    refine ⟨w1, hrun, some b, dir7_stored ((turned_cells hturn (hd.apart b rfl)).trans hd.blk) rfl hown (rise_del hd.rise _) ?_ (fun q hq => hd.all q (mem_del.1 hq).1), (fun b' hb' => .inl hb'), ?_⟩
    · exact Nat.le_trans (List.length_filter_le _ _) hd.few
    · exact (Turns.refl _ w).grown hturn.grown (fun k hk _ => .inr hk)

def YDel7 (B : Nat) (p : Option Nat) (n : ByteArray) : Nat → Value → World → Prop
  | 3, v, _ => v = .map p
  | 4, v, _ => v = .string n
  | _, v, _ => v = .pointer (some ⟨B, 0, none⟩)

end Go.Proofs.YtoeepbmbfambcaaGreatDoor

namespace Go.Proofs.YtoeepbmbfambcaaGreatDoor
open Go.RowKit Go.Maps Go.Sort Go.Shelf

/-- The slice v reads as these texts. -/
def Txs7 (w : World) (v : Value) (ls : List (List UInt8)) : Prop := ∃ A c, v = .slice A ls.length c ∧ ∀ j (h : j < ls.length), ∃ g, A = some ⟨g, 0, none⟩ ∧ w.cell? ⟨g, j, none⟩ = some (.string (tx7 ls[j]))
theorem Txs7.later {w w' : World} {v : Value} {ls : List (List UInt8)} (h : Txs7 w v ls) (hb : Below w.heap.size w w') : Txs7 w' v ls := by
  obtain ⟨A, c, e, hc⟩ := h
  exact ⟨A, c, e, fun j hj => by obtain ⟨g, e, h⟩ := hc j hj; exact ⟨g, e, (hb.cell (p := ⟨g, j, none⟩) (World.block_lt_of_cell? w _ h)).trans h⟩⟩
theorem Txs7.nil (w : World) : Txs7 w (.slice none 0 0) [] := ⟨none, 0, rfl, fun _ h => absurd h (Nat.not_lt_zero _)⟩
theorem Txs7.of_own {w : World} {base : Nat} {e : TypeId} {v : Value} {ls : List (List UInt8)} (h : w.ownsRow base e 1 v ls.length (ls.map encStr)) : Txs7 w v ls := by
  obtain ⟨A, c, rfl⟩ : ∃ A c, v = .slice A ls.length c := by
    rcases h.2 with ⟨rfl, h0⟩ | ⟨g, cap, cur, rfl, _⟩
    · exact ⟨none, 0, by rw [h0]⟩
    · exact ⟨_, _, rfl⟩
  refine ⟨A, c, rfl, fun j hj => ?_⟩
  rcases h.2 with ⟨_, h0⟩ | ⟨g, cap, cur, e1, _⟩
  · omega
  · injection e1 with e1
    subst e1
    refine ⟨g, rfl, ?_⟩
    have := h.cells (g := g) rfl j (encStr ls[j]) (by simp [hj])
    rw [Addr.add_lit, Nat.zero_add] at this
    exact this

/-- The names that begin so. -/
def begin7 (ls : List (List UInt8)) (pre : List UInt8) : List (List UInt8) := ls.filter fun x => Lib.hasPrefix x pre

/-- What List tells. -/
def liE (pre : List UInt8) : Int := first7 [err5 (pref5 pre) 10]
def liL (L : Row7) (pre : List UInt8) : List (List UInt8) := if liE pre = 0 then begin7 (L.map (·.1)) pre else []

theorem one_row7 (W : World) (g : Nat) (lb : Array Value) (n : Int) (h : Ask7 (.func (.func g) #[] lb) n W) : AskRow7 (W.alloc (.cells #[.func (.func g) #[] lb] 72)) W.heap.size [(.func (.func g) #[] lb, n)] := by
  obtain ⟨G, l, e, h1, h2⟩ := asks7_new W [(.func (.func g) #[] lb, n)] 72 (by intro x hx; obtain rfl := List.mem_singleton.1 hx; exact h)
  exact ⟨by simp, fun j hj => by
    have hj0 : j = 0 := by simpa using hj
    subst hj0
    exact ⟨by simp, h.later (below_alloc (Below.refl _ _) _)⟩⟩

end Go.Proofs.YtoeepbmbfambcaaGreatDoor

namespace Go.Proofs.YtoeepbmbfambcaaGreatDoor
open Go.RowKit Go.Maps Go.Sort Go.Shelf

theorem askrow7_new (W : World) (l : List (Value × Int)) (t : TypeId) (ha : ∀ x ∈ l, Ask7 x.1 x.2 W) : AskRow7 (W.alloc (.cells (l.map (·.1)).toArray t)) W.heap.size l := by
  refine ⟨by simp, fun j hj => ⟨?_, (ha _ (List.getElem_mem hj)).later (below_alloc (Below.refl _ _) _)⟩⟩
  rw [World.cell?_alloc_at _ _ _ _ rfl]
  simp [hj]

/-- What Lookup tells beside the error. -/
def loS (L : Row7) (n : List UInt8) : List UInt8 := if deE L n = 0 then getE L n else []

/-- A directory of its own, apart from all that was there. -/
def Apart7 (L : Row7) (w : World) (e : Ending) (w' : World) : Prop :=
  ∃ B p, e = .returned (.pointer (some ⟨B, 0, none⟩)) ∧ Dir7 w' B p L ∧ w.heap.size ≤ B ∧ (∀ b, p = some b → w.heap.size ≤ b) ∧ Below w.heap.size w w'

/-! ### All -/
/-- A user with a name and a sum, as cells. -/
def usr7 (q : List UInt8 × List UInt8) : List Value := [.string (tx7 q.1), .string (tx7 q.2), .string ⟨#[]⟩, .bool false, .slice none 0 0]
theorem usr7_at (L : Row7) (j i : Nat) (hj : j < L.length) (hi : i < 5) : (L.flatMap usr7)[j * 5 + i]? = (usr7 L[j])[i]? := by
  induction L generalizing j with
  | nil => exact absurd hj (Nat.not_lt_zero _)
  | cons q L ih =>
    rw [List.flatMap_cons]
    cases j with
    | zero =>
      rw [List.getElem?_append_left (by simp [usr7]; omega)]
      simp
    | succ j =>
      rw [List.getElem?_append_right (by simp [usr7]; omega)]
      have := ih j (by simpa using hj)
      rw [show (j + 1) * 5 + i - (usr7 q).length = j * 5 + i by simp [usr7]; omega, this]
      simp
theorem usr7_length (L : Row7) : (L.flatMap usr7).length = L.length * 5 := by
  induction L with
  | nil => rfl
  | cons q L ih => rw [List.flatMap_cons, List.length_append, ih]; simp [usr7]; omega
theorem rows_apart {w : World} {b1 b2 s1 s2 n1 n2 : Nat} {e1 e2 : TypeId} {v1 v2 : Value} {xs1 xs2 : List Value} (h1 : w.ownsRow b1 e1 s1 v1 n1 xs1) (h2 : w.ownsRow b2 e2 s2 v2 n2 xs2) (he : e1 ≠ e2) : v1.ownBlock = none ∨ v1.ownBlock ≠ v2.ownBlock := by
  rcases h1.2 with ⟨rfl, _⟩ | ⟨g, cap, cur, rfl, _, hg, _⟩
  · exact .inl rfl
  · rcases h2.2 with ⟨rfl, _⟩ | ⟨g2, cap2, cur2, rfl, _, hg2, _⟩
    · exact .inr (by simp [Value.ownBlock])
    · refine .inr fun e => ?_
      have : g = g2 := by simpa [Value.ownBlock] using e
      subst this
      rw [hg] at hg2
      injection hg2 with h
      injection h with _ h
      exact he h
theorem infoUser7 : (Tryz.prog.info? 43).map (fun i => (i.zero, i.size, i.bytes)) = some (some (.agg #[.string ⟨#[]⟩, .string ⟨#[]⟩, .string ⟨#[]⟩, .bool false, .slice none 0 0]), 5, 80) := by kernel_rfl

/-- The users of a row, new in memory. -/
def Users7 (L : Row7) (base : Nat) (w : World) (v : Value) : Prop := w.ownsRow base 43 5 v L.length (L.flatMap usr7)

set_option maxRecDepth 100000 in
set_option maxHeartbeats 2000000 in
theorem all7_calls (B : Nat) (p : Option Nat) (L : Row7) (w : World) (hd : Dir7 w B p L) : Calls Tryz.prog 14 #[.pointer (some ⟨B, 0, none⟩)] w fun e w' => ∃ v, e = .returned v ∧ Users7 L w.heap.size w' v ∧ Below w.heap.size w w' := by
  have HN := Lib.hid (names7_calls B p L w hd)
  have HD := Lib.hid hd
  have hfew := hd.few
  have HLK : Hid (∀ W, Dir7 W B p L → ∀ s : ByteArray, s.size ≤ maxLen → (Instr.lookup 64 (.map p) (.string s) false).run Tryz.prog W = .ok (.string (tx7 (getE L s.data.toList))) W) := fun W hD s hs => look71 hD s hs
  clear hd
  obtain ⟨i0, hi, hz0, hz1, hz2⟩ := info_parts infoUser7
  obtain ⟨n, hn⟩ : ∃ n, n = L.length := ⟨_, rfl⟩
  have HLN : Hid (L.length = n) := hn.symm
  rw [← hn] at hfew
  clear hn
  go_enter Tryz.func14, Tryz.ntmps14
  go_wp2_with fail
  with_reducible refine HN.out.mono ?_
  rintro e w1 ⟨v, rfl, hrow, _, hb⟩
  have hlen : (L.map (·.1)).length = n := by rw [List.length_map]; exact HLN.out
  rw [HLN.out, ← hlen] at hrow
  obtain ⟨A, c, rfl, _⟩ := Txs7.of_own hrow
  have HRW := Lib.hid hrow
  rw [hlen] at HRW ⊢
  have HB := Lib.hid hb
  have HLE := Lib.hid hlen
  clear hb hrow HN hlen
  go_wp2
  go_loopg [3, 5, 9] n (fun gg s3 _ s9 wr => ∃ k : Nat, k ≤ n ∧ n - k ≤ gg ∧ s9 = .int .i64 k ∧ Hid (Below w.heap.size w wr) ∧ Hid (wr.ownsRow w.heap.size 9 1 (.slice A n c) n ((L.map (·.1)).map encStr)) ∧ Hid (wr.ownsRow w.heap.size 43 5 s3 k ((L.take k).flatMap usr7)))
  case atStart => exact ⟨0, Nat.zero_le _, by omega, rfl, HB, HRW, World.ownsRow_nil _ _ _ _⟩
  case round =>
    obtain ⟨k, hk, hg, rfl, HW, HR2, HU⟩ := hrel
    by_cases hlt : k < n
    · have hltz : (k : Int) < (n : Int) := by omega
      have hkl : k < L.length := by have := HLN.out; omega
      have hr2 := HR2.out
      have hle := HLE.out
      obtain ⟨A', c', e1, hcs⟩ := Txs7.of_own (ls := L.map (·.1)) (by rw [hle]; exact hr2)
      injection e1 with e1 e2 e3
      subst e1
      subst e3
      clear e2
      obtain ⟨g, rfl, hcell⟩ := hcs k (by rw [hle]; exact hlt)
      have hnm : (L.map (·.1))[k]'(by rw [hle]; exact hlt) = L[k].1 := by simp
      rw [hnm] at hcell
      have hDw := HD.out.later HW.out
      have hc := hDw.cell
      have hlk := HLK.out wr hDw (tx7 L[k].1) (by
        have := (HD.out.all L[k] (List.getElem_mem hkl)).1
        rw [← size_list, tx7_list]
        exact Nat.le_trans this (by decide))
      rw [tx7_list] at hlk
      have hget : getE L L[k].1 = L[k].2 := get_mem HD.out.rise (List.getElem_mem hkl)
      rw [hget] at hlk
      have hne := rows_apart hr2 HU.out (by decide)
      have HT : Hid ((L.take (k + 1)).flatMap usr7 = (L.take k).flatMap usr7 ++ [.string (tx7 L[k].1), .string (tx7 L[k].2), .string ⟨#[]⟩, .bool false, .slice none 0 0]) := by
        show _ = _
        rw [List.take_succ_eq_append_getElem hkl, List.flatMap_append]
        simp [usr7]
      have HNE := Lib.hid hne
      generalize tx7 L[k].1 = sn at *
      generalize tx7 L[k].2 = sh at *
      clear hcs hnm hDw hget hr2 hle hne
      go_wp2_with (first
        | (at_builtin; refine wpList_append_own _ rfl _ _ 22 rfl w.heap.size 43 i0 (.agg #[.string ⟨#[]⟩, .string ⟨#[]⟩, .string ⟨#[]⟩, .bool false, .slice none 0 0]) 5 80 Tryz.underlying22 hi hz0 hz1 hz2 rfl (by decide) _ _ _ rfl (HU.out.alloc _) ⟨wr.heap.size, 0, none⟩ 1 1 [.string sn, .string sh, .string ⟨#[]⟩, .bool false, .slice none 0 0] rfl rfl
            (fun j u hu => by rw [Addr.add_lit, Nat.zero_add, World.cell?_alloc_at _ _ _ _ rfl]; simpa using hu) (by simp [Value.oneCell']) (by unfold maxLen; omega) (by omega) (by have := HW.out.size; simp; omega) ?_
           intro v' w2 hown' hgrow _
           have HO := Lib.hid hown'
           have HG := Lib.hid hgrow
           clear hown' hgrow)
        | fail)
      go_roundg (n - (k + 1))
      case measure => omega
      case rel =>
        have hg1 : wr.grownBy (wr.alloc (.cells #[.string sn, .string sh, .string ⟨#[]⟩, .bool false, .slice none 0 0] 43)) none := World.grownBy_alloc _ _ _
        refine ⟨k + 1, by omega, by omega, by go_num, (show Hid _ from ?_), (show Hid _ from ?_), (show Hid _ from by rw [HT.out]; exact HO.out)⟩
        · exact (below_next HW.out (below_alloc (Below.refl _ _) _)).grown HG.out (by have := HW.out.size; simp; omega) (fun j hj => (HU.out.lt j hj).1)
        · exact (HR2.out.alloc _).kept HG.out HNE.out
    · have hltz : ¬ (k : Int) < (n : Int) := by omega
      obtain rfl : k = n := by omega
      go_wp2
      go_ret
      refine ⟨_, rfl, ?_, HW.out⟩
      have hu := HU.out
      have hl := HLN.out
      rw [List.take_of_length_le (by omega)] at hu
      unfold Users7
      rw [hl]
      exact hu
end Go.Proofs.YtoeepbmbfambcaaGreatDoor

namespace Go.Proofs.YtoeepbmbfambcaaGreatDoor
open Go.RowKit Go.Maps Go.Sort Go.Shelf

/-- Rows and variables that are no directory's stay as they were. -/
def Keeps7 (W w' : World) : Prop := ∀ (k : Nat) (c : Array Value) (T : TypeId) (fr : Nat × Nat), W.heap[k]? = some (.cells c T fr) → T ≠ 66 → w'.heap[k]? = some (.cells c T fr)
theorem Keeps7.of_below {W w' : World} (hb : Below W.heap.size W w') : Keeps7 W w' := fun k _ _ _ h _ => (hb.block k (Array.getElem?_eq_some_iff.1 h).1).trans h
theorem Keeps7.trans {a b c : World} (h : Keeps7 a b) (k : Keeps7 b c) : Keeps7 a c := fun i x T fr hi hT => k i x T fr (h i x T fr hi hT) hT
theorem Goes7.keeps {W w' : World} {B : Nat} {p : Option Nat} {L L' : Row7} (hd : Dir7 W B p L) (hg : Goes7 W B p L' w') : Keeps7 W w' := by
  obtain ⟨_, _, _, ht⟩ := hg
  intro k c T fr hk hT
  refine (ht.block k (Array.getElem?_eq_some_iff.1 hk).1 ?_).trans hk
  rintro (rfl | e)
  · rw [hd.blk] at hk
    injection hk with hk
    injection hk with _ h
    exact hT h.symm
  · obtain ⟨es, clock, h1, _⟩ := hd.map k e
    rw [h1] at hk
    cases hk

/-- A directory that has come about since w0, in W; nothing that was there in w0 has turned. -/
def Own7 (w0 W : World) (B : Nat) (L : Row7) : Prop := ∃ p, Dir7 W B p L ∧ w0.heap.size ≤ B ∧ (∀ b, p = some b → w0.heap.size ≤ b) ∧ Below w0.heap.size w0 W
section
variable {w0 W W' : World} {B : Nat} {L : Row7}
theorem Own7.below (h : Own7 w0 W B L) : Below w0.heap.size w0 W := by obtain ⟨_, _, _, _, h⟩ := h; exact h
theorem Own7.few (h : Own7 w0 W B L) : L.length ≤ 12 := by obtain ⟨_, h, _⟩ := h; exact h.few
theorem Own7.rise (h : Own7 w0 W B L) : Rise7 L := by obtain ⟨_, h, _⟩ := h; exact h.rise
theorem Own7.all (h : Own7 w0 W B L) : ∀ q ∈ L, q.1.length ≤ 12 ∧ q.2.length ≤ 12 := by obtain ⟨_, h, _⟩ := h; exact h.all
theorem Own7.later (h : Own7 w0 W B L) (hb : Below W.heap.size W W') : Own7 w0 W' B L := by
  obtain ⟨p, hd, h1, h2, h3⟩ := h
  exact ⟨p, hd.later hb, h1, h2, below_next h3 hb⟩
theorem Own7.goes {L' : Row7} {p : Option Nat} (hd : Dir7 W B p L) (h1 : w0.heap.size ≤ B) (h2 : ∀ b, p = some b → w0.heap.size ≤ b) (h3 : Below w0.heap.size w0 W) (hg : Goes7 W B p L' W') : Own7 w0 W' B L' := by
  obtain ⟨p', hd', hp, ht⟩ := hg
  refine ⟨p', hd', h1, fun b hb => ?_, h3.trans (ht.below_at h3.size ?_)⟩
  · rcases hp b hb with h | h
    · exact h2 b h
    · exact Nat.le_trans h3.size h
  · rintro i (rfl | e)
    · exact h1
    · exact h2 i e
theorem own7_new (w : World) : Own7 w (w.alloc (.cells #[.map none] 66)) w.heap.size [] := ⟨none, dir7_new w, Nat.le_refl _, (fun _ h => nomatch h), below_alloc (Below.refl _ _) _⟩

/-- An error's number is told, the directory has the row L', nothing else has turned. -/
def Deed7 (w0 W : World) (B : Nat) (n : Int) (L' : Row7) (e : Ending) (w' : World) : Prop := e = .returned (.int .i64 n) ∧ Own7 w0 w' B L' ∧ Keeps7 W w'
theorem Own7.allu (h : Own7 w0 W B L) : Calls Tryz.prog 14 #[.pointer (some ⟨B, 0, none⟩)] W fun e w' => ∃ v, e = .returned v ∧ Users7 L W.heap.size w' v ∧ Below W.heap.size W w' := by
  obtain ⟨p, hd, _⟩ := h
  exact all7_calls B p L W hd
end

def bob7 : List UInt8 × List UInt8 := ([98, 111, 98], [49])
def ann7 : List UInt8 × List UInt8 := ([97, 110, 110], [50])
theorem ex7_1 : crE [] [98, 111, 98] [49] = 0 ∧ crL [] [98, 111, 98] [49] = [bob7] := by decide +kernel
theorem ex7_2 : crE [bob7] [97, 110, 110] [50] = 0 ∧ crL [bob7] [97, 110, 110] [50] = [ann7, bob7] := by decide +kernel
theorem ex7_3 : liE [] = 0 ∧ liL [ann7, bob7] [] = [[97, 110, 110], [98, 111, 98]] := by decide +kernel

end Go.Proofs.YtoeepbmbfambcaaGreatDoor

namespace Go.Proofs.YtoeepbmbfambcaaGreatDoor
open Go

theorem returns_laid {H : Type} {enc : TypeId × Value → H} {a : Assume} {C : Checked} {os : Os} {f : FuncId} {fn : Func} {s : ChangeSpec} {conds : List PathCond} {apart fresh handsOn again : Bool} {X : World → Array Value → Prop}
    (own : ownKnob C.prog.godebug = none) (started : os.Started) (noInit : C.prog.inits.idxOf? f = none) (hfn : C.prog.funcs[f]? = some fn)
    (witness : ∃ (w : World) (tape : Tape) (i : Input), w.os = os ∧ (w.forCall tape i).Shaped C.prog ∧ i.vars = [] ∧ Input.okWide C.prog (w.forCall tape i) .any w.heap.size f i ∧
      ((s.pre enc C.prog fn conds apart (w.forCall tape i).memory i.args ∧ X (w.forCall tape i).memory i.args) ∧ sizedMet enc C.prog fn (OpenSpec.ofChange s) apart (w.forCall tape i).memory i.args) ∧ a.holds C.prog (lone (Frame.enter C.prog f i.args .normal) [] (w.forCall tape i)))
    (contract : ∀ (W : World) (base : Nat) (args : Array Value) (ds gs : List (DataW H)) (before : List MemPlace),
      (∀ (j : Nat) t v, fn.params[j]? = some t → args[j]? = some v → Value.okWide C.prog W .any base t v) →
      DataW.Whole enc C.prog fn.params.toList s.vars apart W args.toList ds gs before →
      W.ShapedOpen C.prog →
      Calls C.prog f args W fun e W' => ∃ v, e = .returned v ∧ s.post enc C.prog fn apart fresh handsOn again W args v W') :
    ReturnsInHanded a C os f .any (fun w args => (s.pre enc C.prog fn conds apart w args ∧ X w args) ∧ sizedMet enc C.prog fn (OpenSpec.ofChange s) apart w args) (s.post enc C.prog fn apart fresh handsOn again) := by
  refine returnsInHanded_of_calls own started noInit witness ?_
  intro w tape i _ hsh _ hok hpre _
  obtain ⟨_, _, _, fn', hfn', _, _, _, _, hval⟩ := hok
  have e : fn' = fn := Option.some.inj (hfn'.symm.trans hfn)
  subst e
  obtain ⟨⟨⟨ds, gs, before, hw, _⟩, _⟩, _⟩ := hpre
  have hw' := DataW.Whole.of_heap (w' := w.forCall tape i) (by rfl) hw
  refine (contract (w.forCall tape i) w.heap.size i.args ds gs before hval hw' hsh).mono fun e W' ⟨v, he, hp⟩ => ?_
  subst he
  exact ChangeSpec.post_blind hp

/-- In every world of the form's shape the library's variable MaxLen holds a number. -/
theorem len5_of {W : World} (h : W.ShapedOpen Tryz.prog) : Len5 W := by
  obtain ⟨m, hm⟩ := cell_of_shapedOpen_int (P := Tryz.prog) (g := 0) (t := 3) (zero := #[.int .i64 0]) (k := .i64) h (of_decide_eq_true (by kernel_rfl)) (by kernel_rfl) rfl (by kernel_rfl) (by kernel_rfl) Tryz.underlying3
  refine ⟨?_, m, hm⟩
  by_cases hl : 0 < W.heap.size
  · exact hl
  · exfalso
    have hn : W.heap[0]? = none := Array.getElem?_eq_none (by omega)
    simp [World.cell?, hn] at hm
end Go.Proofs.YtoeepbmbfambcaaGreatDoor

namespace Go.Proofs.YtoeepbmbfambcaaGreatDoor
open Go.ChangeShapes Go.WideShapes Go.ChangeAt Go.RowKit Go.Deep

theorem returns_laid6 {H : Type} {enc : TypeId × Value → H} {a : Assume} {C : Checked} {os : Os} {f : FuncId} {fn : Func} {s : ChangeSpec} {conds : List PathCond} {apart fresh handsOn again : Bool} {X : World → Array Value → Prop}
    (own : ownKnob C.prog.godebug = none) (started : os.Started) (noInit : C.prog.inits.idxOf? f = none) (hfn : C.prog.funcs[f]? = some fn)
    (witness : ∃ (w : World) (tape : Tape) (i : Input), w.os = os ∧ (w.forCall tape i).Shaped C.prog ∧ i.vars = [] ∧ Input.okWide C.prog (w.forCall tape i) .any w.heap.size f i ∧
      ((s.pre enc C.prog fn conds apart (w.forCall tape i).memory i.args ∧ X (w.forCall tape i).memory i.args) ∧ sizedMet enc C.prog fn (OpenSpec.ofChange s) apart (w.forCall tape i).memory i.args) ∧ a.holds C.prog (lone (Frame.enter C.prog f i.args .normal) [] (w.forCall tape i)))
    (contract : ∀ (W : World) (base : Nat) (args : Array Value) (ds gs : List (DataW H)) (before : List MemPlace),
      (∀ (j : Nat) t v, fn.params[j]? = some t → args[j]? = some v → Value.okWide C.prog W .any base t v) →
      DataW.Whole enc C.prog fn.params.toList s.vars apart W args.toList ds gs before →
      (DataW.weightsEach C.prog (fn.params.toList ++ (OpenSpec.ofChange s).bare.plain.varTypes C.prog) (ds ++ gs)).all (· ≤ reachBytes) = true →
      W.ShapedOpen C.prog →
      Calls C.prog f args W fun e W' => ∃ v, e = .returned v ∧ s.post enc C.prog fn apart fresh handsOn again W args v W') :
    ReturnsInHanded a C os f .any (fun w args => (s.pre enc C.prog fn conds apart w args ∧ X w args) ∧ sizedMet enc C.prog fn (OpenSpec.ofChange s) apart w args) (s.post enc C.prog fn apart fresh handsOn again) := by
  refine returnsInHanded_of_calls own started noInit witness ?_
  intro w tape i _ hsh _ hok hpre _
  obtain ⟨_, _, _, fn', hfn', _, _, _, _, hval⟩ := hok
  have e : fn' = fn := Option.some.inj (hfn'.symm.trans hfn)
  subst e
  obtain ⟨⟨⟨ds, gs, before, hw, _⟩, _⟩, hz⟩ := hpre
  have hwt := hz.weights hw
  have hw' := DataW.Whole.of_heap (w' := w.forCall tape i) (by rfl) hw
  refine (contract (w.forCall tape i) w.heap.size i.args ds gs before hval hw' hwt hsh).mono fun e W' ⟨v, he, hp⟩ => ?_
  subst he
  exact ChangeSpec.post_blind hp

theorem cells6String : Tryz.prog.cellsOf 9 = 1 := by kernel_rfl
theorem cells6Bool : Tryz.prog.cellsOf 4 = 1 := by kernel_rfl
theorem cells6Texts : Tryz.prog.cellsOf 41 = 1 := by kernel_rfl
theorem cells6User : Tryz.prog.cellsOf 43 = 5 := by kernel_rfl

section
variable {H : Type} {enc : TypeId × Value → H} {W : World} {base b0 : Nat} {sp : Nat → Bool} {hd : Bool} {fuel : Nat}
theorem texts6_of {cs : List Value} {x : DataW H × List MemPlace} (hf : DataW.trod enc Tryz.prog W base sp hd fuel 41 cs = some x) :
    ∃ a len cap ss, cs = [.slice a len cap] ∧ len = ss.length ∧ ss.length ≤ cap ∧ cap ≤ 9223372036854775807 ∧ (a = none → cap = 0) ∧ RdS W a ss ∧ ∀ s ∈ ss, s.size ≤ 9223372036854775807 := by
  rcases open_strings Tryz.underlying41 Tryz.underlying9 cells6String hf with ⟨hcs, _⟩ | ⟨x, l, c, zs, hcs, _, hl, hm, hz, _, hcell, hwz⟩
  · exact ⟨none, 0, 0, [], hcs, rfl, by simp, by omega, fun _ => rfl, fun h => absurd rfl h, by simp⟩
  · have hlen : l ≤ zs.length := by rw [hz]; split <;> omega
    have hlt : (zs.take l).length = l := by rw [List.length_take]; omega
    have hx : 0 < zs.length → x = ⟨x.block, x.off, none⟩ := by
      intro hi
      have hs : x.spot = none := World.cell?_spot (hcell 0 hi)
      rw [← hs]
    refine ⟨some x, l, c, zs.take l, hcs, by omega, by omega, by simpa [maxLen] using hm, (fun h => nomatch h), fun hne => ?_, fun s hs => hwz s (List.mem_of_mem_take hs)⟩
    have hp : 0 < zs.length := by
      rcases Nat.eq_zero_or_pos zs.length with h | h
      · exact absurd (by rw [List.eq_nil_of_length_eq_zero h]; simp) hne
      · exact h
    refine ⟨x.block, x.off, by rw [← hx hp], ?_, fun j hj => ?_⟩
    · have := World.block_lt_of_cell? W _ (hcell 0 hp)
      rwa [add_block] at this
    · have hj' : j < zs.length := by omega
      have hc := hcell j hj'
      rw [hx hp, Addr.add_lit] at hc
      rw [hc]
      simp [List.getD_eq_getElem?_getD, List.getElem?_eq_getElem hj']

set_option maxRecDepth 100000 in
theorem user_of {cs : List Value} {x : DataW H × List MemPlace} (h : DataW.trod enc Tryz.prog W base sp hd fuel 43 cs = some x) (hw : ∀ n ∈ x.1.weights Tryz.prog 43, n ≤ reachBytes) :
    ∃ u : Us, cs = u.cells.toList ∧ u.Ok W := by
  obtain ⟨ys, n, _, rfl, hlen, hyl, hf⟩ := DataW.trod_struct Tryz.underlying43 h
  rw [cells6User] at hlen
  match cs, hlen, ys, hyl with
  | [c0, c1, c2, c3, c4], _, [y0, y1, y2, y3, y4], _ =>
    have f0 : DataW.trod enc Tryz.prog W base sp hd n 9 (([c0, c1, c2, c3, c4].drop 0).take (Tryz.prog.cellsOf 9)) = some y0 := hf 0 _ rfl
    have f1 : DataW.trod enc Tryz.prog W base sp hd n 9 (([c0, c1, c2, c3, c4].drop 1).take (Tryz.prog.cellsOf 9)) = some y1 := hf 1 _ rfl
    have f2 : DataW.trod enc Tryz.prog W base sp hd n 9 (([c0, c1, c2, c3, c4].drop 2).take (Tryz.prog.cellsOf 9)) = some y2 := hf 2 _ rfl
    have f3 : DataW.trod enc Tryz.prog W base sp hd n 4 (([c0, c1, c2, c3, c4].drop 3).take (Tryz.prog.cellsOf 4)) = some y3 := hf 3 _ rfl
    have f4 : DataW.trod enc Tryz.prog W base sp hd n 41 (([c0, c1, c2, c3, c4].drop 4).take (Tryz.prog.cellsOf 41)) = some y4 := hf 4 _ rfl
    rw [cells6String] at f0 f1 f2
    rw [cells6Bool] at f3
    rw [cells6Texts] at f4
    obtain ⟨nm, e0, g0, _⟩ := DataW.trod_string Tryz.underlying9 f0
    obtain ⟨hs, e1, g1, _⟩ := DataW.trod_string Tryz.underlying9 f1
    obtain ⟨ml, e2, g2, _⟩ := DataW.trod_string Tryz.underlying9 f2
    obtain ⟨dis, e3, _⟩ := DataW.trod_bool Tryz.underlying4 f3
    obtain ⟨a, len, cap, ss, e4, rfl, h1, h2, h3, h4, h5⟩ := texts6_of f4
    simp only [List.drop_zero, List.drop_succ_cons, List.take_succ_cons, List.take_zero, List.cons.injEq, and_true] at e0 e1 e2 e3 e4
    subst e0 e1 e2 e3 e4
    have hwe : ∀ (j : Nat) (t : TypeId) (d : DataW H), [9, 9, 9, 4, 41][j]? = some t → [y0.1, y1.1, y2.1, y3.1, y4.1][j]? = some d → ∀ n ∈ d.weights Tryz.prog t, n ≤ reachBytes := fun j t d ht hd n hn => by
      refine hw n ?_
      show n ∈ DataW.weights Tryz.prog 43 (.agg [y0.1, y1.1, y2.1, y3.1, y4.1])
      unfold DataW.weights
      rw [Tryz.underlying43]
      exact DataW.weights_mem_each (j := j) (t := t) (d := d) ht hd n hn
    have w0 : nm.data.toList.length ≤ reachBytes := hwe 0 _ _ rfl rfl _ (by rw [g0]; simp [DataW.weights])
    have w1 : hs.data.toList.length ≤ reachBytes := hwe 1 _ _ rfl rfl _ (by rw [g1]; simp [DataW.weights])
    have w2 : ml.data.toList.length ≤ reachBytes := hwe 2 _ _ rfl rfl _ (by rw [g2]; simp [DataW.weights])
    rw [size_list] at w0 w1 w2
    have hr : reachBytes ≤ 140737488355328 := by decide
    exact ⟨⟨nm, hs, ml, dis, a, ss, cap⟩, rfl, ⟨h4, by show nm.size ≤ _; omega, by show hs.size ≤ _; omega, by show ml.size ≤ _; omega, h3, h1, h2, h5⟩⟩

set_option maxRecDepth 100000 in
theorem user_arg {v : Value} {d : DataW H} {p : List MemPlace} (hok : Value.okWide Tryz.prog W .any b0 43 v) (h : DataW.Trod enc Tryz.prog W base sp hd 43 v d p) (hw : ∀ n ∈ d.weights Tryz.prog 43, n ≤ reachBytes) :
    ∃ u : Us, v = u.v ∧ u.Ok W := by
  obtain ⟨cs, rfl, _⟩ := okWide_struct Tryz.underlying43 hok
  obtain ⟨fuel, hf⟩ := h
  obtain ⟨u, hu, hk⟩ := user_of hf hw
  exact ⟨u, by have : cs = u.cells := Array.toList_inj.1 hu; rw [this]; rfl, hk⟩
end
end Go.Proofs.YtoeepbmbfambcaaGreatDoor

namespace Go.Proofs.YtoeepbmbfambcaaGreatDoor
open Go.ChangeShapes Go.WideShapes Go.ChangeAt Go.RowKit Go.Deep

/-- Memory that reads as users. -/
def RdU7 (w : World) (A : Option Addr) (l : List Us) : Prop :=
  l ≠ [] → ∃ b off, A = some ⟨b, off, none⟩ ∧ b < w.heap.size ∧ ∀ i (hi : i < l.length) j u, l[i].cells[j]? = some u → w.cell? ⟨b, off + i * 5 + j, none⟩ = some u
theorem RdU7.later {w w' : World} {A : Option Addr} {l : List Us} (h : RdU7 w A l) (hb : Below w.heap.size w w') : RdU7 w' A l := fun hl => by
  obtain ⟨b, off, rfl, hlt, hc⟩ := h hl
  exact ⟨b, off, rfl, Nat.lt_of_lt_of_le hlt hb.size, fun i hi j u hu => (hb.cell (p := ⟨b, off + i * 5 + j, none⟩) hlt).trans (hc i hi j u hu)⟩
/-- What is known of a slice of users that came in. -/
def IsUsers (w : World) (A : Option Addr) (len : Nat) (l : List Us) : Prop := len = l.length ∧ l.length ≤ 9223372036854775807 ∧ RdU7 w A l ∧ ∀ u ∈ l, u.Ok w

theorem cellsOfUser7 : Tryz.prog.cellsOf 43 = 5 := by kernel_rfl
theorem pick_user (d : Us) {φ : Nat → Us → Prop} {m : Nat} (h : ∀ i, i < m → ∃ t, φ i t) : ∃ T : Nat → Us, ∀ i, i < m → φ i (T i) := by
  refine ⟨fun i => if hi : i < m then Classical.choose (h i hi) else d, fun i hi => ?_⟩
  have : (if hi : i < m then Classical.choose (h i hi) else d) = Classical.choose (h i hi) := dif_pos hi
  show φ i (if hi : i < m then Classical.choose (h i hi) else d)
  rw [this]
  exact Classical.choose_spec (h i hi)
theorem weights_all {H : Type} {P : Program} {e : TypeId} : ∀ {ds : List (DataW H)} {d : DataW H}, d ∈ ds → ∀ n ∈ d.weights P e, n ∈ DataW.weightsAll P e ds
  | x :: r, d, h, n, hn => by
    rw [DataW.weightsAll]
    rcases List.mem_cons.1 h with rfl | h
    · exact List.mem_append_left _ hn
    · exact List.mem_append_right _ (weights_all h n hn)

section
variable {H : Type} {enc : TypeId × Value → H} {W : World} {base : Nat} {sp : Nat → Bool} {hd : Bool}
set_option maxRecDepth 100000 in
theorem users_of {a : Option Addr} {len cap : Nat} {d : DataW H} {p : List MemPlace} (h : DataW.Trod enc Tryz.prog W base sp hd 22 (.slice a len cap) d p) (hw : ∀ n ∈ d.weights Tryz.prog 22, n ≤ reachBytes) : ∃ l, IsUsers W a len l := by
  obtain ⟨fuel, hf⟩ := h
  rcases open_slice Tryz.underlying22 hf with ⟨hcs, _⟩ | ⟨x, l, c, m, n, D, Pl, hcs, _, hl, hm, hmm, hx, hi⟩
  · simp [Value.cells] at hcs
    obtain ⟨rfl, rfl, rfl⟩ := hcs
    exact ⟨[], rfl, by simp, fun h => absurd rfl h, by simp⟩
  · simp [Value.cells] at hcs
    obtain ⟨rfl, rfl, rfl⟩ := hcs
    have hlm : len ≤ m := by rw [hmm]; split <;> omega
    have hd1 := (Prod.mk.inj hx).1
    rw [cellsOfUser7] at hi
    have hex : ∀ i, i < len → ∃ t : Us, (∀ j, j < 5 → W.cell? ((x.add (i * 5)).add j) = t.cells[j]?) ∧ t.Ok W := by
      intro i him
      obtain ⟨cs', hc, ht'⟩ := hi i (by omega)
      obtain ⟨t, rfl, hrest⟩ := user_of ht' (fun k hk => hw k (by
        rw [hd1, DataW.weights, Tryz.underlying22]
        exact List.mem_cons_of_mem _ (List.mem_append_left _ (weights_all (List.mem_map.2 ⟨i, List.mem_range.2 him, rfl⟩) k hk))))
      have h3 := (World.cells?_some hc).2.2
      exact ⟨t, fun j hj => by rw [h3 j hj]; simp, hrest⟩
    obtain ⟨T, hT⟩ := pick_user ⟨⟨#[]⟩, ⟨#[]⟩, ⟨#[]⟩, false, none, [], 0⟩ hex
    refine ⟨(List.range len).map T, by simp, by simpa [maxLen] using Nat.le_trans hl hm, fun hne => ?_, fun t ht => ?_⟩
    · have hp : 0 < len := by
        rcases Nat.eq_zero_or_pos len with h | h
        · subst h; simp at hne
        · exact h
      have hc0 := (hT 0 hp).1 0 (by omega)
      have h00 : (T 0).cells[0]? = some (.string (T 0).nm) := rfl
      rw [h00, Nat.zero_mul] at hc0
      have hx : x = ⟨x.block, x.off, none⟩ := by
        have hs : x.spot = none := World.cell?_spot hc0
        rw [← hs]
      refine ⟨x.block, x.off, by rw [← hx], ?_, fun i hi' j u hu => ?_⟩
      · exact World.block_lt_of_cell? W _ hc0
      · rw [List.length_map, List.length_range] at hi'
        have e : ((List.range len).map T)[i]'(by simpa using hi') = T i := by simp
        rw [e] at hu
        have hj : j < 5 := (Array.getElem?_eq_some_iff.1 hu).1
        have := (hT i hi').1 j hj
        rw [hx, Addr.add_lit, Addr.add_lit] at this
        exact this.trans hu
    · obtain ⟨i, hi', rfl⟩ := List.mem_map.1 ht
      rw [List.mem_range] at hi'
      exact (hT i hi').2
end
end Go.Proofs.YtoeepbmbfambcaaGreatDoor

namespace Go.Proofs.YtoeepbmbfambcaaGreatDoor
open Go.RowKit Go.Maps Go.Sort Go.Shelf

/-- The first error of users that may not be. -/
def mayE : List Us → Int
  | [] => 0
  | u :: r => if chk6 1 u = 0 then mayE r else chk6 1 u
/-- Their names and sums. -/
def rowU (l : List Us) : Row7 := l.map fun u => (u.nm.data.toList, u.hs.data.toList)
/-- What Of tells. -/
def ofE (l : List Us) : Int := first7 [mayE l, err5 (rise6 (l.map (·.nm))) 9, err5 (decide ((l.length : Int) ≤ 12)) 7]

theorem mayE_zero : ∀ {l : List Us}, mayE l = 0 → ∀ u ∈ l, chk6 1 u = 0
  | [], _, u, h => by cases h
  | x :: r, h, u, hu => by
    unfold mayE at h
    by_cases e : chk6 1 x = 0
    · rw [if_pos e] at h
      rcases List.mem_cons.1 hu with rfl | hu
      · exact e
      · exact mayE_zero h u hu
    · rw [if_neg e] at h
      exact absurd h e
theorem rise6_pair : ∀ {ss : List ByteArray}, rise6 ss = true → ss.Pairwise fun a b => bytesBefore a.data.toList b.data.toList = true
  | [], _ => List.Pairwise.nil
  | [_], _ => by simp
  | a :: b :: r, h => by
    unfold rise6 at h
    rw [Bool.and_eq_true] at h
    have ih := rise6_pair (ss := b :: r) h.2
    have hab : bytesBefore a.data.toList b.data.toList = true := by
      have := h.1
      unfold ahead6 at this
      rwa [before_cmp] at this
    refine List.pairwise_cons.2 ⟨fun x hx => ?_, ih⟩
    rcases List.mem_cons.1 hx with rfl | hx
    · exact hab
    · exact WideShapes.bytes_trans _ _ _ hab ((List.pairwise_cons.1 ih).1 x hx)
theorem ofE_zero {l : List Us} (h : ofE l = 0) : (∀ u ∈ l, chk6 1 u = 0) ∧ Rise7 (rowU l) ∧ l.length ≤ 12 ∧ ∀ u ∈ l, u.nm.size ≤ 12 ∧ u.hs.size ≤ 12 := by
  obtain ⟨e1, h⟩ := first7_cons h
  obtain ⟨e2, h⟩ := first7_cons h
  obtain ⟨e3, _⟩ := first7_cons h
  have hm := mayE_zero e1
  have hr := (err7_zero (by decide)).1 e2
  have hl := (err7_zero (by decide)).1 e3
  rw [decide_eq_true_eq] at hl
  refine ⟨hm, ?_, by omega, fun u hu => ?_⟩
  · have := rise6_pair hr
    rw [List.pairwise_map] at this
    unfold Rise7 rowU
    rw [List.pairwise_map]
    exact this
  · obtain ⟨_, h1, h2⟩ := chk6_head (hm u hu)
    exact ⟨name7_size h1, hash7_size h2⟩
theorem put_next {l : List Us} (hr : Rise7 (rowU l)) {k : Nat} (hk : k < l.length) : putE (rowU (l.take k)) l[k].nm.data.toList l[k].hs.data.toList = rowU (l.take (k + 1)) := by
  have hk' : k < (rowU l).length := by unfold rowU; simpa using hk
  have e0 : rowU (l.take k) = (rowU l).take k := by unfold rowU; rw [List.map_take]
  have e1 : rowU (l.take (k + 1)) = (rowU l).take (k + 1) := by unfold rowU; rw [List.map_take]
  have e2 : (rowU l)[k]'hk' = (l[k].nm.data.toList, l[k].hs.data.toList) := List.getElem_map _
  have hup : ∀ y ∈ (rowU l).take k, bytesBefore y.1 (rowU l)[k].1 = true := by
    intro y hy
    obtain ⟨j, hj, rfl⟩ := List.getElem_of_mem hy
    rw [List.getElem_take]
    exact List.pairwise_iff_getElem.1 hr j k _ hk' (by simp at hj; omega)
  rw [e2] at hup
  rw [e0, e1, List.take_succ_eq_append_getElem hk', e2]
  unfold putE
  rw [del_of_not (by
    cases h : hasE ((rowU l).take k) l[k].nm.data.toList
    · rfl
    · obtain ⟨p, hp, he⟩ := hasE_iff.1 h
      exact absurd he (before_ne (hup p hp)))]
  have ins : ∀ {x : List UInt8 × List UInt8} {D : Row7}, (∀ y ∈ D, bytesBefore x.1 y.1 = false) → insE x D = D ++ [x] := by
    intro x D
    induction D with
    | nil => intro _; rfl
    | cons y r ih =>
      intro h
      unfold insE
      rw [h y (by simp), ih (fun z hz => h z (by simp [hz]))]
      simp
  exact ins fun y hy => before_anti (hup y hy)

set_option maxRecDepth 100000 in
set_option maxHeartbeats 2000000 in
theorem maybe71_calls (C : Nat) (A : Option Addr) (c n : Nat) (l : List Us) (w : World) (hC : w.cell? ⟨C, 0, none⟩ = some (.slice A n c)) (hl : n = l.length) (hn : n ≤ 9223372036854775807) (hr : RdU7 w A l) (ho : ∀ u ∈ l, u.Ok w) (hm : Len5 w) :
    Calls Tryz.prog 58 #[.pointer (some ⟨C, 0, none⟩)] w (Errs5 (mayE l) w) := by
  have HR := Lib.hid hr
  have HL := Lib.hid hl
  have HO := Lib.hid ho
  have HM := Lib.hid hm
  clear hr hl ho hm
  obtain ⟨r, hr⟩ : ∃ r, r = mayE l := ⟨_, rfl⟩
  rw [← hr]
  have HRR : Hid (r = mayE (l.drop 0)) := hr
  clear hr
  go_enter Tryz.func58, Tryz.ntmps58
  go_wp2
  clear hC
  go_loopg [3, 4, 7] n (fun gg _ _ s7 wr => ∃ k : Nat, k ≤ n ∧ n - k ≤ gg ∧ s7 = .int .i64 k ∧ Hid (Below w.heap.size w wr) ∧ Hid (r = mayE (l.drop k)))
  case atStart => exact ⟨0, Nat.zero_le _, by omega, rfl, Below.refl _ _, HRR⟩
  case round =>
    obtain ⟨k, hk, hg, rfl, HW, A0⟩ := hrel
    by_cases hlt : k < n
    · have hltz : (k : Int) < (n : Int) := by omega
      have hkl : k < l.length := HL.out ▸ hlt
      obtain ⟨b, off, rfl, hb, hc⟩ := (HR.out.later HW.out) (by intro e; rw [e] at hkl; exact absurd hkl (Nat.not_lt_zero _))
      have c0 : wr.cell? ⟨b, off + k * 5, none⟩ = some (.string l[k].nm) := hc k hkl 0 _ rfl
      have c1 : wr.cell? ⟨b, off + k * 5 + 1, none⟩ = some (.string l[k].hs) := hc k hkl 1 _ rfl
      have c2 : wr.cell? ⟨b, off + k * 5 + 2, none⟩ = some (.string l[k].ml) := hc k hkl 2 _ rfl
      have c3 : wr.cell? ⟨b, off + k * 5 + 3, none⟩ = some (.bool l[k].dis) := hc k hkl 3 _ rfl
      have c4 : wr.cell? ⟨b, off + k * 5 + 4, none⟩ = some (.slice l[k].ga l[k].gs.length l[k].gc) := hc k hkl 4 _ rfl
      have hb1 := below_next HW.out (below_alloc (Below.refl wr.heap.size wr) (.cells #[.string l[k].nm, .string l[k].hs, .string l[k].ml, .bool l[k].dis, .slice l[k].ga l[k].gs.length l[k].gc] 43))
      have HC : Hid (Calls Tryz.prog 41 #[.int .i64 1, .agg #[.string l[k].nm, .string l[k].hs, .string l[k].ml, .bool l[k].dis, .slice l[k].ga l[k].gs.length l[k].gc]] (wr.alloc (.cells #[.string l[k].nm, .string l[k].hs, .string l[k].ml, .bool l[k].dis, .slice l[k].ga l[k].gs.length l[k].gc] 43)) (Errs5 (chk6 1 l[k]) (wr.alloc (.cells #[.string l[k].nm, .string l[k].hs, .string l[k].ml, .bool l[k].dis, .slice l[k].ga l[k].gs.length l[k].gc] 43)))) := check6_calls 1 l[k] _ ((HO.out _ (List.getElem_mem hkl)).below hb1) (HM.out.later hb1)
      have HB1 := Lib.hid hb1
      have hA : r = (if chk6 1 l[k] = 0 then mayE (l.drop (k + 1)) else chk6 1 l[k]) := by
        have := A0.out
        rw [List.drop_eq_getElem_cons hkl] at this
        exact this
      clear hc hb hb1 A0
      generalize chk6 1 l[k] = x at *
      generalize l[k].nm = nm at *
      generalize l[k].hs = hs at *
      generalize l[k].ml = ml at *
      generalize l[k].dis = dis at *
      generalize l[k].ga = ga at *
      generalize l[k].gs.length = gl at *
      generalize l[k].gc = gc at *
      by_cases h0 : x = 0
      · rw [if_pos h0] at hA
        have HA := Lib.hid hA
        subst h0
        clear hA
        go_wp2_with (go_at_call 41; (with_reducible refine HC.out.mono ?_); rintro e w2 ⟨rfl, hb⟩; have HB2 := Lib.hid (below_next HB1.out hb); clear hb)
        go_roundg (n - (k + 1))
        case measure => omega
        case rel => exact ⟨k + 1, by omega, by omega, by go_num, HB2, HA⟩
      · rw [if_neg h0] at hA
        subst hA
        have hx1 : (r != 0) = true := by simpa using h0
        go_wp2_with (go_at_call 41; (with_reducible refine HC.out.mono ?_); rintro e w2 ⟨rfl, hb⟩; have HB2 := Lib.hid (below_next HB1.out hb); clear hb)
        go_ret
        exact ⟨rfl, HB2.out⟩
    · have hltz : ¬ (k : Int) < (n : Int) := by omega
      have hA : r = 0 := by
        have := A0.out
        rw [List.drop_eq_nil_of_le (by have := HL.out; omega)] at this
        exact this
      subst hA
      clear A0
      go_wp2
      go_ret
      exact ⟨rfl, HW.out⟩
set_option maxRecDepth 100000 in
theorem maybe7_calls (A : Option Addr) (c n : Nat) (l : List Us) (w : World) (hl : n = l.length) (hn : n ≤ 9223372036854775807) (hr : RdU7 w A l) (ho : ∀ u ∈ l, u.Ok w) (hm : Len5 w) :
    Calls Tryz.prog 35 #[.slice A n c] w (Makes7 (mayE l) w) := by
  have hmf := mkf
  have HR := Lib.hid hr
  have HO := Lib.hid ho
  have HM := Lib.hid hm
  have HL := Lib.hid hl
  clear hr ho hm hl
  go_enter Tryz.func35, Tryz.ntmps35
  go_wp2
  go_ret
  have bl := below_alloc (Below.refl w.heap.size w) (.cells #[.slice A n c] 22)
  refine ⟨_, _, rfl, ?_, bl⟩
  refine ⟨_, _, rfl, enters_of Tryz.func58 (by kernel_rfl) rfl, fun W hb => ?_⟩
  have hW := below_next bl hb
  exact maybe71_calls _ A c n l W ((hb.cell (p := ⟨_, 0, none⟩) (by simp)).trans (by simp)) HL.out hn (HR.out.later hW) (fun u hu => (HO.out u hu).below hW) (HM.out.later hW)
/-- What each operation makes. -/
def YRi7 (b off n c j : Nat) (x y : ByteArray) (q : Int) : Nat → Value → World → Prop
  | 0, v, _ => v = .slice (some ⟨b, off, none⟩) n c
  | 1, v, _ => v = .int .i64 ((j : Int) + 1)
  | 2, v, _ => v = .int .i64 (j : Int)
  | 3, v, _ => v = .pointer (some ⟨b, off + j * 5, none⟩)
  | 4, v, _ => v = .pointer (some ⟨b, off + j * 5, none⟩)
  | 5, v, _ => v = .string x
  | 6, v, _ => v = .slice (some ⟨b, off, none⟩) n c
  | 7, v, _ => v = .int .i64 ((j : Int) + 1)
  | 8, v, _ => v = .pointer (some ⟨b, off + (j + 1) * 5, none⟩)
  | 9, v, _ => v = .pointer (some ⟨b, off + (j + 1) * 5, none⟩)
  | 10, v, _ => v = .string y
  | 11, v, _ => v = .int .i64 q
  | _, v, _ => v = .bool (decide (q ≥ 0))

set_option maxRecDepth 100000 in
set_option maxHeartbeats 2000000 in
theorem rise71_calls (C : Nat) (A : Option Addr) (c n : Nat) (l : List Us) (w : World) (hC : w.cell? ⟨C, 0, none⟩ = some (.slice A n c)) (hl : n = l.length) (hn : n ≤ 9000000000000000000) (hr : RdU7 w A l) :
    Calls Tryz.prog 59 #[.pointer (some ⟨C, 0, none⟩)] w (Errs5 (err5 (rise6 (l.map (·.nm))) 9) w) := by
  have HR := Lib.hid hr
  have HL := Lib.hid hl
  have HCw := Lib.hid hC
  have LCw : C < w.heap.size := World.block_lt_of_cell? w _ hC
  obtain ⟨r, hrr⟩ : ∃ r, r = err5 (rise6 (l.map (·.nm))) 9 := ⟨_, rfl⟩
  rw [← hrr]
  have HRR := Lib.hid hrr
  clear hr hl hC hrr
  go_enter Tryz.func59, Tryz.ntmps59
  go_wp2
  go_loopg [2] (n + 1) (fun gg s2 wr => ∃ j : Nat, j ≤ n ∧ n + 1 - j ≤ gg ∧ s2 = .int .i64 ((j : Int) + 1) ∧ Hid (Below w.heap.size w wr) ∧ Hid (∀ i (h : i + 1 < l.length), i < j → ahead6 l[i].nm l[i + 1].nm = true))
  case atStart => exact ⟨0, Nat.zero_le _, by omega, rfl, Below.refl _ _, fun i _ hi => absurd hi (Nat.not_lt_zero _)⟩
  case round =>
    obtain ⟨j, hj, hg, rfl, HW, A0⟩ := hrel
    have LC : C < wr.heap.size := Nat.lt_of_lt_of_le LCw HW.out.size
    have HCC := Lib.hid ((HW.out.cell (p := ⟨C, 0, none⟩) LCw).trans HCw.out)
    have hcc := HCC.out
    by_cases hlt : j + 1 < n
    · have hltz : (j : Int) + 1 < (n : Int) := by omega
      have hltz0 : (j : Int) < (n : Int) := by omega
      have hj0 : (0 : Int) ≤ (j : Int) := by omega
      have hj1 : (0 : Int) ≤ (j : Int) + 1 := by omega
      have hjl : j + 1 < l.length := HL.out ▸ hlt
      obtain ⟨b, off, rfl, hb, hc⟩ := (HR.out.later HW.out) (by intro e; rw [e] at hjl; exact absurd hjl (Nat.not_lt_zero _))
      have LB : b < wr.heap.size := hb
      have HX : Hid (wr.cell? ⟨b, off + j * 5, none⟩ = some (.string l[j].nm)) := hc j (by omega) 0 _ rfl
      have HY0 : Hid (wr.cell? ⟨b, off + (j + 1) * 5, none⟩ = some (.string l[j + 1].nm)) := hc (j + 1) hjl 0 _ rfl
      have HCM : Hid (∀ W, Calls Tryz.prog 54 #[.string l[j].nm, .string l[j + 1].nm] W fun e w' => e = .returned (.int .i64 (Lib.compareBytes l[j].nm.data.toList l[j + 1].nm.data.toList)) ∧ w' = W) := fun W => compare_calls _ _ W
      have HAH : Hid (ahead6 l[j].nm l[j + 1].nm = decide (Lib.compareBytes l[j].nm.data.toList l[j + 1].nm.data.toList < 0)) := rfl
      have HT : Hid (ahead6 l[j].nm l[j + 1].nm = true → ∀ i (h : i + 1 < l.length), i < j + 1 → ahead6 l[i].nm l[i + 1].nm = true) := fun hq i h hi => by
        by_cases e : i = j
        · subst e; exact hq
        · exact A0.out i h (by omega)
      have HF : Hid (ahead6 l[j].nm l[j + 1].nm = false → r = 9) := fun hf => by
        rw [HRR.out, rise6_bad (l.map (·.nm)) j (by simpa using hjl) (by simpa using hf)]
        rfl
      clear hc hb A0
      generalize ahead6 l[j].nm l[j + 1].nm = ah at *
      generalize Lib.compareBytes l[j].nm.data.toList l[j + 1].nm.data.toList = q at *
      generalize l[j].nm = x at *
      generalize l[j + 1].nm = y at *
      go_wp2_with fail
      refine wp_region_inv (by kernel_rfl) (fun W => Below wr.heap.size wr W) (YRi7 b off n c j x y q) ?F ?hF (by kernel_rfl) (by kernel_rfl) (below_drew (Below.refl _ _)) ?step ?fin
      case hF =>
        intro x
        simp only [List.map_cons, List.map_nil, putL, Act.put, List.setIfInBounds_toArray, List.set_cons_zero, List.set_cons_succ, Nat.zero_add, Nat.reduceAdd]
        exact rfl
      case step =>
        refine ⟨?_, ?_, ?_, ?_, ?_, ?_, ?_, ?_, ?_, ?_, ?_, ?_, ?_, trivial⟩
        all_goals intro x W hW hdep K hK
        · have d1 := (hW.cell (p := ⟨C, 0, none⟩) LC).trans HCC.out
          clear hdep
          go_simp
          exact hK _ _ rfl hW (fun _ _ h => h)
        · clear hdep
          go_simp
          exact hK _ _ rfl hW (fun _ _ h => h)
        · have h1 : x 1 = _ := hdep 1 rfl
          clear hdep
          simp only [h1] at hK
          go_simp
          refine hK _ _ ?_ hW (fun _ _ h => h)
          show Value.int .i64 _ = Value.int .i64 _
          refine congrArg (Value.int IntKind.i64) ?_
          first | omega | (rw [IntKind.wrap_i64] <;> omega)
        · have h0 : x 0 = _ := hdep 0 rfl
          have h2 : x 2 = _ := hdep 2 rfl
          clear hdep
          simp only [h0, h2] at hK
          go_simp
          exact hK _ _ rfl hW (fun _ _ h => h)
        · have h3 : x 3 = _ := hdep 3 rfl
          clear hdep
          simp only [h3] at hK
          go_simp
          exact hK _ _ rfl hW (fun _ _ h => h)
        · have h4 : x 4 = _ := hdep 4 rfl
          have d2 := (hW.cell (p := ⟨b, off + j * 5, none⟩) LB).trans HX.out
          clear hdep
          simp only [h4] at hK
          go_simp
          exact hK _ _ rfl hW (fun _ _ h => h)
        · have d1 := (hW.cell (p := ⟨C, 0, none⟩) LC).trans HCC.out
          clear hdep
          go_simp
          exact hK _ _ rfl hW (fun _ _ h => h)
        · clear hdep
          go_simp
          exact hK _ _ rfl hW (fun _ _ h => h)
        · have h6 : x 6 = _ := hdep 6 rfl
          have h7 : x 7 = _ := hdep 7 rfl
          clear hdep
          simp only [h6, h7] at hK
          go_simp
          exact hK _ _ (by show _ = _; first | rfl | (congr 3; omega)) hW (fun _ _ h => h)
        · have h8 : x 8 = _ := hdep 8 rfl
          clear hdep
          simp only [h8] at hK
          go_simp
          exact hK _ _ rfl hW (fun _ _ h => h)
        · have h9 : x 9 = _ := hdep 9 rfl
          have d2 := (hW.cell (p := ⟨b, off + (j + 1) * 5, none⟩) LB).trans HY0.out
          clear hdep
          simp only [h9] at hK
          go_simp
          exact hK _ _ rfl hW (fun _ _ h => h)
        · have h5 : x 5 = _ := hdep 5 rfl
          have h10 : x 10 = _ := hdep 10 rfl
          clear hdep
          simp only [h5, h10] at hK
          go_simp
          refine (HCM.out W).mono ?_
          rintro e W' ⟨rfl, rfl⟩
          exact hK _ _ rfl hW (fun _ _ h => h)
        · have h11 : x 11 = _ := hdep 11 rfl
          clear hdep
          simp only [h11] at hK
          go_simp
          exact hK _ _ rfl hW (fun _ _ h => h)
      case fin =>
        intro x W hW hY
        have h12 : x 12 = .bool (decide (q ≥ 0)) := hY 12 (by decide)
        have HFF := Lib.hid (below_next HW.out hW)
        clear hY hW LC LB HX HY0 HCM HCC hcc
        rw [h12]
        by_cases hq : q ≥ 0
        · have hah : ah = false := by rw [HAH.out]; exact decide_eq_false (by omega)
          have hr9 := HF.out hah
          rw [decide_eq_true hq]
          subst hr9
          clear HT HF
          go_wp2
          go_ret
          exact ⟨rfl, HFF.out⟩
        · have hah : ah = true := by rw [HAH.out]; exact decide_eq_true (by omega)
          have HT2 := Lib.hid (HT.out hah)
          rw [decide_eq_false hq]
          clear HT HF hah
          go_wp2
          go_roundg (n + 1 - (j + 1))
          case measure => omega
          case rel => exact ⟨j + 1, by omega, by omega, by go_num, HFF, HT2⟩
    · have hltz : ¬ (j : Int) + 1 < (n : Int) := by omega
      have hr0 : r = 0 := by
        rw [HRR.out, rise6_all (l.map (·.nm)) (fun k hk => by
          have hk' : k + 1 < l.length := by simpa using hk
          have := A0.out k hk' (by have := HL.out; omega)
          simpa using this)]
        rfl
      subst hr0
      clear A0
      go_wp2
      go_ret
      exact ⟨rfl, HW.out⟩
set_option maxRecDepth 100000 in
theorem rise7_calls (A : Option Addr) (c n : Nat) (l : List Us) (w : World) (hl : n = l.length) (hn : n ≤ 9000000000000000000) (hr : RdU7 w A l) :
    Calls Tryz.prog 36 #[.slice A n c] w (Makes7 (err5 (rise6 (l.map (·.nm))) 9) w) := by
  have hmf := mkf
  have HR := Lib.hid hr
  have HL := Lib.hid hl
  clear hr hl
  go_enter Tryz.func36, Tryz.ntmps36
  go_wp2
  go_ret
  have bl := below_alloc (Below.refl w.heap.size w) (.cells #[.slice A n c] 22)
  refine ⟨_, _, rfl, ?_, bl⟩
  refine ⟨_, _, rfl, enters_of Tryz.func59 (by kernel_rfl) rfl, fun W hb => ?_⟩
  exact rise71_calls _ A c n l W ((hb.cell (p := ⟨_, 0, none⟩) (by simp)).trans (by simp)) HL.out hn (HR.out.later (below_next bl hb))

theorem Own7.put {w0 W : World} {B : Nat} {L : Row7} (h : Own7 w0 W B L) (s hh : ByteArray) (hs : s.size ≤ 12) (h2 : hh.size ≤ 12) (hf : (putE L s.data.toList hh.data.toList).length ≤ 12) :
    Calls Tryz.prog 38 #[.pointer (some ⟨B, 0, none⟩), .string s, .string hh] W fun e w' => e = .returned (.tuple #[]) ∧ Own7 w0 w' B (putE L s.data.toList hh.data.toList) ∧ Keeps7 W w' := by
  obtain ⟨p, hd, g1, g2, g3⟩ := h
  exact (dput_calls B p L s hh W hd hs h2 hf).mono fun e w' ⟨he, hg⟩ => ⟨he, Own7.goes hd g1 g2 g3 hg, hg.keeps hd⟩

set_option maxRecDepth 100000 in
set_option maxHeartbeats 4000000 in
theorem of7_calls (A : Option Addr) (c n : Nat) (l : List Us) (w : World) (hl : n = l.length) (hn : n ≤ 1000) (hr : RdU7 w A l) (ho : ∀ u ∈ l, u.Ok w) (hm : Len5 w) :
    Calls Tryz.prog 18 #[.slice A n c] w fun e w' => (ofE l ≠ 0 ∧ e = .returned (.tuple #[.pointer none, .int .i64 (ofE l)]) ∧ Below w.heap.size w w') ∨ (ofE l = 0 ∧ ∃ B, e = .returned (.tuple #[.pointer (some ⟨B, 0, none⟩), .int .i64 0]) ∧ Own7 w w' B (rowU l)) := by
  have HMB := Lib.hid (maybe7_calls A c n l w hl (by omega) hr ho hm)
  have HRI : Hid (∀ W, Below w.heap.size w W → Calls Tryz.prog 36 #[.slice A n c] W (Makes7 (err5 (rise6 (l.map (·.nm))) 9) W)) := fun W hb => rise7_calls A c n l W hl (by omega) (hr.later hb)
  have HFI : Hid (∀ W, Calls Tryz.prog 37 #[.int .i64 (n : Int)] W (Makes7 (err5 (decide ((l.length : Int) ≤ 12)) 7) W)) := fun W => by rw [← hl]; exact fit7_calls _ W
  have HR := Lib.hid hr
  have HL := Lib.hid hl
  have HZ : Hid (ofE l = 0 → Rise7 (rowU l) ∧ l.length ≤ 12 ∧ ∀ u ∈ l, u.nm.size ≤ 12 ∧ u.hs.size ≤ 12) := fun h => (ofE_zero h).2
  have HNW : Hid (∀ W, Calls Tryz.prog 16 #[] W fun e w' => e = .returned (.pointer (some ⟨W.heap.size, 0, none⟩)) ∧ w' = W.alloc (.cells #[.map none] 66)) := fun W => new7_calls W
  have HE : Hid (first7 [mayE l, err5 (rise6 (l.map (·.nm))) 9, err5 (decide ((l.length : Int) ≤ 12)) 7] = ofE l) := rfl
  clear hr ho hm hl
  generalize mayE l = e0 at *
  generalize err5 (rise6 (l.map (·.nm))) 9 = e1 at *
  generalize err5 (decide ((l.length : Int) ≤ 12)) 7 = e2 at *
  generalize ofE l = r at *
  go_enter Tryz.func18, Tryz.ntmps18
  go_wp2_with fail
  with_reducible refine HMB.out.mono ?_
  rintro e w1 ⟨g0, lb0, rfl, ha, hb⟩
  have HA0 := Lib.hid ha
  have HB1 := Lib.hid hb
  have HRI1 := Lib.hid (HRI.out w1 hb)
  clear ha hb HMB HRI
  go_wp2_with fail
  with_reducible refine HRI1.out.mono ?_
  rintro e w2 ⟨g1, lb1, rfl, ha, hb⟩
  have HA1 := Lib.hid ha
  have HA02 := Lib.hid (HA0.out.later hb)
  have HB2 := Lib.hid (below_next HB1.out hb)
  clear ha hb HRI1 HA0 HB1
  go_wp2_with fail
  with_reducible refine (HFI.out w2).mono ?_
  rintro e w3 ⟨g2, lb2, rfl, ha, hb⟩
  have HB3 := Lib.hid (below_next HB2.out hb)
  have hrow := askrow7_new w3 [(.func (.func g0) #[] lb0, e0), (.func (.func g1) #[] lb1, e1), (.func (.func g2) #[] lb2, e2)] 72 (by
    intro x hx
    simp only [List.mem_cons, List.not_mem_nil, or_false] at hx
    rcases hx with rfl | rfl | rfl
    · exact HA02.out.later hb
    · exact HA1.out.later hb
    · exact ha)
  have hf := first7_calls w3.heap.size 3 3 _ _ rfl (by decide) hrow
  have HF : Hid (Calls Tryz.prog 34 #[.slice (some ⟨w3.heap.size, 0, none⟩) 3 3] (w3.alloc (.cells #[.func (.func g0) #[] lb0, .func (.func g1) #[] lb1, .func (.func g2) #[] lb2] 72)) (Errs5 r (w3.alloc (.cells #[.func (.func g0) #[] lb0, .func (.func g1) #[] lb1, .func (.func g2) #[] lb2] 72)))) := by
    rw [← HE.out]; exact hf
  clear hf hrow ha hb HFI HA02 HA1 HE
  go_wp2_with fail
  with_reducible refine HF.out.mono ?_
  rintro e w4 ⟨rfl, hb⟩
  have HB4 := Lib.hid (below_next HB3.out (below_next (below_alloc (Below.refl w3.heap.size w3) _) hb))
  clear hb HF HB3 HB2
  by_cases h0 : r = 0
  case neg =>
    have h1 : (r != 0) = true := by simpa using h0
    have H0 := Lib.hid h0
    clear h0
    go_wp2
    go_ret2
    exact .inl ⟨H0.out, rfl, HB4.out⟩
  subst h0
  have hz := HZ.out rfl
  have HZ2 := Lib.hid hz
  clear hz HZ
  go_wp2_with fail
  with_reducible refine (HNW.out w4).mono ?_
  rintro e w5 ⟨rfl, rfl⟩
  have HO := Lib.hid (own7_new w4)
  generalize w4.alloc (.cells #[.map none] 66) = w5 at *
  generalize w4.heap.size = B at *
  clear HNW
  go_wp2
  go_loopg [7, 23] n (fun gg _ s23 wr => ∃ k : Nat, k ≤ n ∧ n - k ≤ gg ∧ s23 = .int .i64 k ∧ Hid (Own7 w4 wr B (rowU (l.take k))))
  case atStart => exact ⟨0, Nat.zero_le _, by omega, rfl, HO.out⟩
  case round =>
    obtain ⟨k, hk, hg, rfl, HW⟩ := hrel
    by_cases hlt : k < n
    · have hltz : (k : Int) < (n : Int) := by omega
      have hkl : k < l.length := HL.out ▸ hlt
      obtain ⟨b, off, rfl, hb, hc⟩ := (HR.out.later (below_next HB4.out HW.out.below)) (by intro e; rw [e] at hkl; exact absurd hkl (Nat.not_lt_zero _))
      have c0 : wr.cell? ⟨b, off + k * 5, none⟩ = some (.string l[k].nm) := hc k hkl 0 _ rfl
      have c1 : wr.cell? ⟨b, off + k * 5 + 1, none⟩ = some (.string l[k].hs) := hc k hkl 1 _ rfl
      have c2 : wr.cell? ⟨b, off + k * 5 + 2, none⟩ = some (.string l[k].ml) := hc k hkl 2 _ rfl
      have c3 : wr.cell? ⟨b, off + k * 5 + 3, none⟩ = some (.bool l[k].dis) := hc k hkl 3 _ rfl
      have c4 : wr.cell? ⟨b, off + k * 5 + 4, none⟩ = some (.slice l[k].ga l[k].gs.length l[k].gc) := hc k hkl 4 _ rfl
      have hp := put_next HZ2.out.1 hkl
      have HC := Lib.hid ((HW.out.later (below_alloc (Below.refl wr.heap.size wr) (.cells #[.string l[k].nm, .string l[k].hs, .string l[k].ml, .bool l[k].dis, .slice l[k].ga l[k].gs.length l[k].gc] 43))).put l[k].nm l[k].hs (HZ2.out.2.2 _ (List.getElem_mem hkl)).1 (HZ2.out.2.2 _ (List.getElem_mem hkl)).2 (by rw [hp]; unfold rowU; rw [List.length_map, List.length_take]; have := HZ2.out.2.1; omega))
      rw [hp] at HC
      obtain ⟨LN, hLN⟩ : ∃ LN, LN = rowU (l.take (k + 1)) := ⟨_, rfl⟩
      rw [← hLN] at HC
      have HLN := Lib.hid hLN
      clear hc hb hp hLN
      generalize l[k].nm = nm at *
      generalize l[k].hs = hs at *
      generalize l[k].ml = ml at *
      generalize l[k].dis = dis at *
      generalize l[k].ga = ga at *
      generalize l[k].gs.length = gl at *
      generalize l[k].gc = gc at *
      go_wp2_with (go_at_call 38; (with_reducible refine HC.out.mono ?_); rintro e w6 ⟨rfl, ho, _⟩; have HO6 := Lib.hid ho; clear ho)
      go_roundg (n - (k + 1))
      case measure => omega
      case rel => exact ⟨k + 1, by omega, by omega, by go_num, HLN.out ▸ HO6⟩
    · have hltz : ¬ (k : Int) < (n : Int) := by omega
      obtain rfl : k = n := by omega
      have hw := HW.out
      rw [List.take_of_length_le (by have := HL.out; omega)] at hw
      obtain ⟨p, q1, q2, q3, q4⟩ := hw
      have HF2 : Hid (Own7 w wr B (rowU l)) := ⟨p, q1, Nat.le_trans HB4.out.size q2, fun b hb => Nat.le_trans HB4.out.size (q3 b hb), below_next HB4.out q4⟩
      clear q1 q2 q3 q4 HW
      go_wp2
      go_ret2
      first | exact .inr ⟨by first | rfl | trivial, _, rfl, HF2.out⟩ | exact ⟨_, rfl, HF2.out⟩
end Go.Proofs.YtoeepbmbfambcaaGreatDoor

namespace Go.Proofs.YtoeepbmbfambcaaGreatDoor
open Go.RowKit Go.Maps Go.Sort Go.Shelf

theorem less7_cmp : ∀ (a b : List UInt8), Op.bytesLess a b = decide (Lib.compareBytes a b < 0)
  | [], [] => by decide
  | [], b :: bl => by simp [Op.bytesLess, Lib.compareBytes]
  | a :: al, [] => by simp [Op.bytesLess, Lib.compareBytes]
  | a :: al, b :: bl => by
    have ih := less7_cmp al bl
    unfold Op.bytesLess Lib.compareBytes
    by_cases h1 : a < b
    · simp [h1]
    · by_cases h2 : b < a
      · have h3 : ¬ a = b := fun h => by subst h; exact h1 h2
        simp [h1, h2, h3]
      · have h3 : a = b := UInt8.le_antisymm (UInt8.not_lt.1 h2) (UInt8.not_lt.1 h1)
        subst h3
        simp [h1] at ih ⊢
        exact ih
theorem less7_eq (x y : ByteArray) : Op.bytesLess x.toList y.toList = ahead6 x y := by
  unfold ahead6
  rw [ByteArray.toList_eq, ByteArray.toList_eq, less7_cmp]

set_option maxRecDepth 100000 in
set_option maxHeartbeats 4000000 in
theorem rof7_calls (A : Option Addr) (c n : Nat) (l : List Us) (w : World) (hl : n = l.length) (hn : n ≤ 1000) (hr : RdU7 w A l) (ho : ∀ u ∈ l, u.Ok w)
    (hf : ∀ u ∈ l, u.nm.size ≤ 1000 ∧ u.hs.size ≤ 1000 ∧ u.ml.size ≤ 1000 ∧ ∀ g ∈ u.gs, g.size ≤ 1000) :
    Calls Tryz.prog 19 #[.slice A n c, .int .i64 1] w (Errs5 (ofE l) w) := by
  have HR := Lib.hid hr
  have HL := Lib.hid hl
  have HO := Lib.hid ho
  have HFW := Lib.hid hf
  clear hr hl ho hf
  obtain ⟨r, hr⟩ : ∃ r, r = ofE l := ⟨_, rfl⟩
  rw [← hr]
  have HRR := Lib.hid hr
  clear hr
  go_enter Tryz.func19, Tryz.ntmps19
  go_wp2
  go_loopg [6, 7, 12] n (fun gg _ _ s12 wr => ∃ k : Nat, k ≤ n ∧ n - k ≤ gg ∧ s12 = .int .i64 k ∧ Hid (Below w.heap.size w wr) ∧ Hid (mayE l = mayE (l.drop k)))
  case atStart => exact ⟨0, Nat.zero_le _, by omega, rfl, Below.refl _ _, rfl⟩
  case round =>
    obtain ⟨k, hk, hg, rfl, HW, A0⟩ := hrel
    by_cases hlt : k < n
    · have hltz : (k : Int) < (n : Int) := by omega
      have hkl : k < l.length := HL.out ▸ hlt
      obtain ⟨b, off, rfl, hb, hc⟩ := (HR.out.later HW.out) (by intro e; rw [e] at hkl; exact absurd hkl (Nat.not_lt_zero _))
      have c0 : wr.cell? ⟨b, off + k * 5, none⟩ = some (.string l[k].nm) := hc k hkl 0 _ rfl
      have c1 : wr.cell? ⟨b, off + k * 5 + 1, none⟩ = some (.string l[k].hs) := hc k hkl 1 _ rfl
      have c2 : wr.cell? ⟨b, off + k * 5 + 2, none⟩ = some (.string l[k].ml) := hc k hkl 2 _ rfl
      have c3 : wr.cell? ⟨b, off + k * 5 + 3, none⟩ = some (.bool l[k].dis) := hc k hkl 3 _ rfl
      have c4 : wr.cell? ⟨b, off + k * 5 + 4, none⟩ = some (.slice l[k].ga l[k].gs.length l[k].gc) := hc k hkl 4 _ rfl
      have hb1 := below_next HW.out (below_alloc (Below.refl wr.heap.size wr) (.cells #[.string l[k].nm, .string l[k].hs, .string l[k].ml, .bool l[k].dis, .slice l[k].ga l[k].gs.length l[k].gc] 43))
      have hfw := HFW.out _ (List.getElem_mem hkl)
      have HC : Hid (Calls Tryz.prog 39 #[.int .i64 1, .agg #[.string l[k].nm, .string l[k].hs, .string l[k].ml, .bool l[k].dis, .slice l[k].ga l[k].gs.length l[k].gc]] (wr.alloc (.cells #[.string l[k].nm, .string l[k].hs, .string l[k].ml, .bool l[k].dis, .slice l[k].ga l[k].gs.length l[k].gc] 43)) (Errs5 (chk6 1 l[k]) (wr.alloc (.cells #[.string l[k].nm, .string l[k].hs, .string l[k].ml, .bool l[k].dis, .slice l[k].ga l[k].gs.length l[k].gc] 43)))) := rcheck6_calls 1 l[k] _ ((HO.out _ (List.getElem_mem hkl)).below hb1) hfw.1 hfw.2.1 hfw.2.2.1 hfw.2.2.2
      have HB1 := Lib.hid hb1
      have hA : mayE l = (if chk6 1 l[k] = 0 then mayE (l.drop (k + 1)) else chk6 1 l[k]) := by
        have := A0.out
        rw [List.drop_eq_getElem_cons hkl] at this
        exact this
      clear hc hb hb1 A0 hfw
      generalize chk6 1 l[k] = x at *
      generalize l[k].nm = nm at *
      generalize l[k].hs = hs at *
      generalize l[k].ml = ml at *
      generalize l[k].dis = dis at *
      generalize l[k].ga = ga at *
      generalize l[k].gs.length = gl at *
      generalize l[k].gc = gc at *
      by_cases h0 : x = 0
      · rw [if_pos h0] at hA
        have HA := Lib.hid hA
        subst h0
        clear hA
        go_wp2_with (go_at_call 39; (with_reducible refine HC.out.mono ?_); rintro e w2 ⟨rfl, hb⟩; have HB2 := Lib.hid (below_next HB1.out hb); clear hb)
        go_roundg (n - (k + 1))
        case measure => omega
        case rel => exact ⟨k + 1, by omega, by omega, by go_num, HB2, HA⟩
      · rw [if_neg h0] at hA
        have hrx : r = x := by
          rw [HRR.out]
          unfold ofE first7
          rw [hA, if_neg h0]
        clear hA
        subst hrx
        have hx1 : (r != 0) = true := by simpa using h0
        go_wp2_with (go_at_call 39; (with_reducible refine HC.out.mono ?_); rintro e w2 ⟨rfl, hb⟩; have HB2 := Lib.hid (below_next HB1.out hb); clear hb)
        go_ret
        exact ⟨rfl, HB2.out⟩
    · have hltz : ¬ (k : Int) < (n : Int) := by omega
      have hA : mayE l = 0 := by
        have := A0.out
        rw [List.drop_eq_nil_of_le (by have := HL.out; omega)] at this
        exact this
      have HR2 : Hid (r = first7 [err5 (rise6 (l.map (·.nm))) 9, err5 (decide ((l.length : Int) ≤ 12)) 7]) := by
        rw [HRR.out]
        unfold ofE
        rw [hA]
        rfl
      clear A0 hA HRR
      go_wp2
      go_loopg [8, 9, 25] n (fun gg _ _ s25 w9 => ∃ k : Nat, k ≤ n ∧ n - k ≤ gg ∧ s25 = .int .i64 k ∧ Hid (Below w.heap.size w w9) ∧ Hid (∀ j (h : j + 1 < l.length), j + 1 < k → ahead6 l[j].nm l[j + 1].nm = true))
      case atStart => exact ⟨0, Nat.zero_le _, by omega, rfl, HW.out, fun j _ hj => absurd hj (by omega)⟩
      case round =>
        clear HW hlt hltz hk hg
        obtain ⟨k, hk, hg, rfl, HW, HT⟩ := hrel
        by_cases hlt : k < n
        · have hltz : (k : Int) < (n : Int) := by omega
          have hkl : k < l.length := HL.out ▸ hlt
          obtain ⟨b, off, rfl, hb, hc⟩ := (HR.out.later HW.out) (by intro e; rw [e] at hkl; exact absurd hkl (Nat.not_lt_zero _))
          have c0 : wr.cell? ⟨b, off + k * 5, none⟩ = some (.string l[k].nm) := hc k hkl 0 _ rfl
          have c1 : wr.cell? ⟨b, off + k * 5 + 1, none⟩ = some (.string l[k].hs) := hc k hkl 1 _ rfl
          have c2 : wr.cell? ⟨b, off + k * 5 + 2, none⟩ = some (.string l[k].ml) := hc k hkl 2 _ rfl
          have c3 : wr.cell? ⟨b, off + k * 5 + 3, none⟩ = some (.bool l[k].dis) := hc k hkl 3 _ rfl
          have c4 : wr.cell? ⟨b, off + k * 5 + 4, none⟩ = some (.slice l[k].ga l[k].gs.length l[k].gc) := hc k hkl 4 _ rfl
          have HB1 := Lib.hid (below_next HW.out (below_alloc (Below.refl wr.heap.size wr) (.cells #[.string l[k].nm, .string l[k].hs, .string l[k].ml, .bool l[k].dis, .slice l[k].ga l[k].gs.length l[k].gc] 43)))
          by_cases hk0 : k = 0
          · have hz0 : ¬ (k : Int) > 0 := by omega
            have hz0' : ¬ 0 < (k : Int) := by omega
            have hkn : ¬ 0 < k := by omega
            have hkd : decide (0 < k) = false := decide_eq_false hkn
            have HY : Hid (∀ j (h : j + 1 < l.length), j + 1 < k + 1 → ahead6 l[j].nm l[j + 1].nm = true) := fun j h hj => absurd hj (by omega)
            clear hc hb HT hk0
            generalize l[k].nm = nm at *
            generalize l[k].hs = hs at *
            generalize l[k].ml = ml at *
            generalize l[k].dis = dis at *
            generalize l[k].ga = ga at *
            generalize l[k].gs.length = gl at *
            generalize l[k].gc = gc at *
            go_wp2_with fail
            have e0 : (wr.alloc (.cells #[.string nm, .string hs, .string ml, .bool dis, .slice ga gl gc] 43)).cell? ⟨wr.heap.size, 0, none⟩ = some (.string nm) := by simp
            generalize wr.alloc (.cells #[.string nm, .string hs, .string ml, .bool dis, .slice ga gl gc] 43) = w9 at *
            go_quiet (fail)
            go_wp2
            go_roundg (n - (k + 1))
            case measure => omega
            case rel => exact ⟨k + 1, by omega, by omega, by go_num, below_drewN HB1.out _, HY⟩
          · have hkl' : k - 1 < l.length := by omega
            have hz0 : (k : Int) > 0 := by omega
            have hkp : 0 < k := by omega
            have hkd : decide (0 < k) = true := decide_eq_true hkp
            have zk : (k : Int) - 1 = ((k - 1 : Nat) : Int) := by omega
            have hwr : IntKind.i64.wrap ((k - 1 : Nat) : Int) = ((k - 1 : Nat) : Int) := IntWalk.i64_in _ (by omega)
            have z1 : ((k - 1 : Nat) : Int) < (n : Int) := by omega
            have d0 : wr.cell? ⟨b, off + (k - 1) * 5, none⟩ = some (.string l[k - 1].nm) := hc (k - 1) hkl' 0 _ rfl
            have d1 := (below_alloc (Below.refl wr.heap.size wr) (.cells #[.string l[k].nm, .string l[k].hs, .string l[k].ml, .bool l[k].dis, .slice l[k].ga l[k].gs.length l[k].gc] 43)).cell (p := ⟨b, off + (k - 1) * 5, none⟩) hb |>.trans d0
            have hle := less7_eq l[k - 1].nm l[k].nm
            have HX : Hid (ahead6 l[k - 1].nm l[k].nm = true → ∀ j (h : j + 1 < l.length), j + 1 < k + 1 → ahead6 l[j].nm l[j + 1].nm = true) := fun hq j h hj => by
              by_cases e : j = k - 1
              · subst e
                have : l[k - 1 + 1] = l[k] := by congr 1; omega
                rw [this]; exact hq
              · exact HT.out j h (by omega)
            have HF : Hid (ahead6 l[k - 1].nm l[k].nm = false → r = 9) := fun hf => by
              have : rise6 (l.map (·.nm)) = false := rise6_bad (l.map (·.nm)) (k - 1) (by simp; omega) (by
                have : l[k - 1 + 1] = l[k] := by congr 1; omega
                simp only [List.getElem_map, this]; exact hf)
              rw [HR2.out, this]; rfl
            clear HT hc
            generalize ahead6 l[k - 1].nm l[k].nm = bb at *
            generalize l[k].nm = nm at *
            generalize l[k].hs = hs at *
            generalize l[k].ml = ml at *
            generalize l[k].dis = dis at *
            generalize l[k].ga = ga at *
            generalize l[k].gs.length = gl at *
            generalize l[k].gc = gc at *
            generalize l[k - 1].nm = y at *
            cases bb with
            | true =>
              have HY := Lib.hid (HX.out rfl)
              clear HX HF
              go_wp2_with fail
              have e0 : (wr.alloc (.cells #[.string nm, .string hs, .string ml, .bool dis, .slice ga gl gc] 43)).cell? ⟨wr.heap.size, 0, none⟩ = some (.string nm) := by simp
              generalize wr.alloc (.cells #[.string nm, .string hs, .string ml, .bool dis, .slice ga gl gc] 43) = w9 at *
              go_quiet (fail)
              go_wp2
              go_roundg (n - (k + 1))
              case measure => omega
              case rel => exact ⟨k + 1, by omega, by omega, by go_num, below_drewN HB1.out _, HY⟩
            | false =>
              have hr : r = 9 := HF.out rfl
              subst hr
              clear HX HF HR2
              go_wp2_with fail
              have e0 : (wr.alloc (.cells #[.string nm, .string hs, .string ml, .bool dis, .slice ga gl gc] 43)).cell? ⟨wr.heap.size, 0, none⟩ = some (.string nm) := by simp
              generalize wr.alloc (.cells #[.string nm, .string hs, .string ml, .bool dis, .slice ga gl gc] 43) = w9 at *
              go_quiet (fail)
              go_wp2
              go_ret
              exact ⟨rfl, below_drewN HB1.out _⟩
        · have hltz : ¬ (k : Int) < (n : Int) := by omega
          have hri : rise6 (l.map (·.nm)) = true := rise6_all (l.map (·.nm)) (fun j h => by
            have h' : j + 1 < l.length := by simpa using h
            have := HT.out j h' (by have := HL.out; omega)
            simpa using this)
          have hr2 := HR2.out
          rw [hri, ← HL.out] at hr2
          clear HT HR2 hri
          by_cases h12 : n > 12
          · have z12 : (n : Int) > 12 := by omega
            have hr7 : r = 7 := by
              rw [hr2, decide_eq_false (show ¬ (n : Int) ≤ 12 by omega)]; rfl
            clear hr2
            subst hr7
            go_wp2
            go_ret
            exact ⟨rfl, HW.out⟩
          · have z12 : ¬ (n : Int) > 12 := by omega
            have hr0 : r = 0 := by
              rw [hr2, decide_eq_true (show (n : Int) ≤ 12 by omega)]; rfl
            clear hr2
            subst hr0
            go_wp2
            go_ret
            exact ⟨rfl, HW.out⟩
end Go.Proofs.YtoeepbmbfambcaaGreatDoor

namespace Go.Proofs.YtoeepbmbfambcaaGreatDoor
open Go.ChangeShapes Go.WideShapes Go.ChangeAt Go.RowKit Go.Deep

/-- An act. -/
structure Act7 where
  kd : Nat
  nm : ByteArray
  hs : ByteArray
def Act7.cells (t : Act7) : List Value := [.int .u8 (t.kd : Int), .string t.nm, .string t.hs]
/-- Memory that reads as acts. -/
def RdA7 (w : World) (A : Option Addr) (l : List Act7) : Prop :=
  l ≠ [] → ∃ b off, A = some ⟨b, off, none⟩ ∧ b < w.heap.size ∧ ∀ i (hi : i < l.length) j u, l[i].cells[j]? = some u → w.cell? ⟨b, off + i * 3 + j, none⟩ = some u
theorem RdA7.later {w w' : World} {A : Option Addr} {l : List Act7} (h : RdA7 w A l) (hb : Below w.heap.size w w') : RdA7 w' A l := fun hl => by
  obtain ⟨b, off, rfl, hlt, hc⟩ := h hl
  exact ⟨b, off, rfl, Nat.lt_of_lt_of_le hlt hb.size, fun i hi j u hu => (hb.cell (p := ⟨b, off + i * 3 + j, none⟩) hlt).trans (hc i hi j u hu)⟩
/-- What is known of a slice of acts that came in. -/
def IsActs7 (w : World) (A : Option Addr) (len : Nat) (l : List Act7) : Prop := len = l.length ∧ l.length ≤ 9223372036854775807 ∧ RdA7 w A l ∧ ∀ t ∈ l, t.kd < 256 ∧ t.nm.size ≤ 9223372036854775807 ∧ t.hs.size ≤ 9223372036854775807

theorem cellsOfU8e : Tryz.prog.cellsOf 5 = 1 := by kernel_rfl
theorem cellsOfStre : Tryz.prog.cellsOf 9 = 1 := by kernel_rfl
theorem pick_acte (d : Act7) {φ : Nat → Act7 → Prop} {m : Nat} (h : ∀ i, i < m → ∃ t, φ i t) : ∃ T : Nat → Act7, ∀ i, i < m → φ i (T i) := by
  refine ⟨fun i => if hi : i < m then Classical.choose (h i hi) else d, fun i hi => ?_⟩
  have : (if hi : i < m then Classical.choose (h i hi) else d) = Classical.choose (h i hi) := dif_pos hi
  show φ i (if hi : i < m then Classical.choose (h i hi) else d)
  rw [this]
  exact Classical.choose_spec (h i hi)

section
variable {H : Type} {enc : TypeId × Value → H} {W : World} {base : Nat} {sp : Nat → Bool} {hd : Bool} {fuel : Nat}
end
end Go.Proofs.YtoeepbmbfambcaaGreatDoor

namespace Go.Proofs.YtoeepbmbfambcaaGreatDoor
open Go.RowKit Go.Maps Go.Sort Go.Shelf

/-- An act is little; acts are few, and little. -/
def little7 (t : Act7) : Bool := decide (t.nm.size ≤ 50) && decide (t.hs.size ≤ 50)
def few7 (l : List Act7) : Bool := l.all little7 && decide (l.length ≤ 60)

theorem filter_at {α : Type} (q : α → Bool) : ∀ (ls : List α) (k : Nat) (hk : k < ls.length), q ls[k] = true → (ls.filter q)[((ls.take k).filter q).length]? = some ls[k]
  | [], _, hk, _ => absurd hk (Nat.not_lt_zero _)
  | x :: ls, 0, _, h => by
    have : q x = true := h
    simp [this]
  | x :: ls, k + 1, hk, h => by
    have ih := filter_at q ls k (by simpa using hk) (by simpa using h)
    rw [List.take_succ_cons, List.filter_cons, List.filter_cons]
    cases q x <;> simp [ih]
theorem filter_step {α : Type} (q : α → Bool) (ls : List α) (k : Nat) (hk : k < ls.length) : ((ls.take (k + 1)).filter q).length = ((ls.take k).filter q).length + if q ls[k] then 1 else 0 := by
  rw [List.take_succ_eq_append_getElem hk, List.filter_append, List.length_append]
  cases h : q ls[k] <;> simp [h]

/-- The slice v reads as these users. -/
def Us7 (w : World) (v : Value) (L : Row7) : Prop := ∃ A c, v = .slice A L.length c ∧ ∀ j (h : j < L.length), ∃ g, A = some ⟨g, 0, none⟩ ∧ ∀ i u, (usr7 L[j])[i]? = some u → w.cell? ⟨g, j * 5 + i, none⟩ = some u
theorem Us7.later {w w' : World} {v : Value} {L : Row7} (h : Us7 w v L) (hb : Below w.heap.size w w') : Us7 w' v L := by
  obtain ⟨A, c, e, hc⟩ := h
  exact ⟨A, c, e, fun j hj => by obtain ⟨g, e, h⟩ := hc j hj; exact ⟨g, e, fun i u hu => (hb.cell (p := ⟨g, j * 5 + i, none⟩) (World.block_lt_of_cell? w _ (h i u hu))).trans (h i u hu)⟩⟩
theorem Us7.of_users {w : World} {base : Nat} {v : Value} {L : Row7} (h : Users7 L base w v) : Us7 w v L := by
  have hs : ∃ A c, v = .slice A L.length c := by
    rcases h.2 with ⟨rfl, h0⟩ | ⟨g, cap, cur, rfl, _⟩
    · exact ⟨none, 0, by rw [h0]⟩
    · exact ⟨_, _, rfl⟩
  obtain ⟨A, c, rfl⟩ := hs
  refine ⟨A, c, rfl, fun j hj => ?_⟩
  rcases h.2 with ⟨_, h0⟩ | ⟨g, cap, cur, e1, _⟩
  · omega
  · injection e1 with e1
    subst e1
    refine ⟨g, rfl, fun i u hu => ?_⟩
    have hi : i < 5 := (List.getElem?_eq_some_iff.1 hu).1
    have := World.ownsRow.cells h (g := g) rfl (j * 5 + i) u (by rw [usr7_at L j i hj hi]; exact hu)
    rw [Addr.add_lit, Nat.zero_add] at this
    exact this
end Go.Proofs.YtoeepbmbfambcaaGreatDoor

namespace Go.Proofs.YtoeepbmbfambcaaGreatDoor
open Go.RowKit

set_option maxRecDepth 100000 in
set_option maxHeartbeats 2000000 in
theorem rsame6_calls (a b : Us) (w : World) (ha : a.Ok w) (hb : b.Ok w) : Calls Tryz.prog 31 #[a.v, b.v] w (Tells5 (sameU a b) w) := by
  have HB0 := Lib.hid (below_alloc (below_alloc (Below.refl w.heap.size w) (.cells a.cells 43)) (.cells b.cells 43))
  have HUA : Hid (UsAt ((w.alloc (.cells a.cells 43)).alloc (.cells b.cells 43)) w.heap.size a) := (UsAt.new w a _).below (below_alloc (Below.refl _ _) _)
  have HUB : Hid (UsAt ((w.alloc (.cells a.cells 43)).alloc (.cells b.cells 43)) (w.heap.size + 1) b) := by
    have h := UsAt.new (w.alloc (.cells a.cells 43)) b 43
    rw [show (w.alloc (.cells a.cells 43)).heap.size = w.heap.size + 1 by simp] at h
    exact Lib.hid h
  have HRA := Lib.hid (ha.rd.below HB0.out)
  have HRB := Lib.hid (hb.rd.below HB0.out)
  have hla := Nat.le_trans ha.len ha.cap
  have hlb := Nat.le_trans hb.len hb.cap
  clear ha hb
  unfold sameU Us.v
  unfold Us.cells at *
  obtain ⟨nm, hs, ml, dis, A, gs, c⟩ := a
  obtain ⟨nm', hs', ml', dis', A', gs', c'⟩ := b
  dsimp only at *
  obtain ⟨n, hn⟩ : ∃ n, n = gs.length := ⟨_, rfl⟩
  obtain ⟨m, hm⟩ : ∃ m, m = gs'.length := ⟨_, rfl⟩
  have HN := Lib.hid hn
  have HM := Lib.hid hm
  have hu4 : _ = some (.slice A gs.length c : Value) := HUA.out.c4
  have hv4 : _ = some (.slice A' gs'.length c' : Value) := HUB.out.c4
  rw [← hn] at HB0 HRA HRB hla hu4 hv4 ⊢
  rw [← hm] at HB0 HRA HRB hlb hu4 hv4 ⊢
  clear hn hm HUA HUB
  obtain ⟨r, hr⟩ : ∃ r, r = (decide (nm = nm') && decide (hs = hs') && decide (ml = ml') && decide (dis = dis') && decide (gs = gs')) := ⟨_, rfl⟩
  rw [← hr]
  have HR := Lib.hid hr
  clear hr
  by_cases h1 : nm = nm'
  · by_cases h2 : hs = hs'
    · by_cases h3 : ml = ml'
      · by_cases h4 : dis = dis'
        · have HR2 : Hid (r = decide (gs = gs')) := by rw [HR.out]; simp [h1, h2, h3, h4, Hid]
          subst h1; subst h2; subst h3; subst h4
          clear HR
          have h4d : (dis != dis) = false := by simp
          by_cases hnm : n = m
          · subst hnm
            have hnn : ((n : Int) != (n : Int)) = false := by simp
            go_enter Tryz.func31, Tryz.ntmps31
            go_wp2
            generalize (w.alloc (.cells #[.string nm, .string hs, .string ml, .bool dis, .slice A n c] 43)).alloc (.cells #[.string nm, .string hs, .string ml, .bool dis, .slice A' n c'] 43) = w1 at *
            go_loopg [5, 44] n (fun gg _ s44 wr => ∃ k : Nat, k ≤ n ∧ n - k ≤ gg ∧ s44 = .int .i64 k ∧ (∃ q, wr = w1.drewN q) ∧ Hid (gs.take k = gs'.take k))
            case atStart => exact ⟨0, Nat.zero_le _, by omega, rfl, ⟨0, rfl⟩, rfl⟩
            case round =>
              obtain ⟨k, hk, hg, rfl, ⟨q, hq⟩, HT⟩ := hrel
              have HQ := Lib.hid hq
              have HW : Hid (RdS wr A gs ∧ RdS wr A' gs') := by
                rw [hq]
                exact ⟨HRA.out.below (below_drewN (Below.refl _ _) q), HRB.out.below (below_drewN (Below.refl _ _) q)⟩
              have x4 : ∀ i, (wr.drewN i).cell? ⟨w.heap.size, 4, none⟩ = some (.slice A n c) := fun i => by rw [hq]; exact hu4
              have y4 : ∀ i, (wr.drewN i).cell? ⟨w.heap.size + 1, 4, none⟩ = some (.slice A' n c') := fun i => by rw [hq]; exact hv4
              clear hq
              by_cases hlt : k < n
              · have hltz : (k : Int) < (n : Int) := by omega
                have hk1 : k < gs.length := by have := HN.out; omega
                have hk2 : k < gs'.length := by have := HM.out; omega
                obtain ⟨b1, o1, rfl, hc1⟩ := HW.out.1.at6 k hk1
                obtain ⟨b2, o2, rfl, hc2⟩ := HW.out.2.at6 k hk2
                have hd1 : ∀ i, (wr.drewN i).cell? ⟨b1, o1 + k, none⟩ = some (.string gs[k]) := fun i => hc1
                have hd2 : ∀ i, (wr.drewN i).cell? ⟨b2, o2 + k, none⟩ = some (.string gs'[k]) := fun i => hc2
                have HX : Hid (gs[k] = gs'[k] → gs.take (k + 1) = gs'.take (k + 1)) := fun e => by
                  rw [List.take_succ_eq_append_getElem hk1, List.take_succ_eq_append_getElem hk2, HT.out, e]
                have HF : Hid (gs[k] ≠ gs'[k] → r = false) := fun e => by
                  rw [HR2.out, decide_eq_false_iff_not]
                  intro e2
                  subst e2
                  exact e rfl
                clear hc1 hc2 HT HW
                generalize gs[k] = x at *
                generalize gs'[k] = y at *
                by_cases hxy : x = y
                · have HX2 := Lib.hid (HX.out hxy)
                  clear HX HF
                  subst hxy
                  go_wp2_with fail
                  go_quiet (fail)
                  go_wp2
                  go_roundg (n - (k + 1))
                  case measure => omega
                  case rel => exact ⟨k + 1, by omega, by omega, by go_num, ⟨q + nq, by rw [HQ.out, World.drewN_drewN]⟩, HX2⟩
                · have hr : r = false := HF.out hxy
                  subst hr
                  have hne := toList_ne6 hxy
                  have hne2 : (x.toList != y.toList) = true := by simpa using hne
                  have hne3 : (x.toList == y.toList) = false := by simpa using hne
                  have hne4 : ¬ x.toList = y.toList := hne
                  have hne5 : decide (x.toList = y.toList) = false := decide_eq_false hne
                  clear HX HF HR2
                  go_wp2_with fail
                  go_quiet (fail)
                  go_wp2
                  go_ret
                  exact ⟨rfl, by rw [HQ.out, World.drewN_drewN]; exact below_drewN HB0.out _⟩
              · have hltz : ¬ (k : Int) < (n : Int) := by omega
                obtain rfl : k = n := by omega
                have hr : r = true := by
                  rw [HR2.out, decide_eq_true_eq]
                  have h1 := HT.out
                  rw [HN.out, List.take_length] at h1
                  have h2 : gs'.take gs.length = gs' := List.take_of_length_le (by have := HN.out; have := HM.out; omega)
                  rw [h2] at h1
                  exact h1
                subst hr
                clear HT HR2 HW
                go_wp2
                go_ret
                exact ⟨rfl, by rw [HQ.out]; exact below_drewN HB0.out _⟩
          · have hr : r = false := by
              rw [HR2.out, decide_eq_false_iff_not]
              intro e
              exact hnm (by rw [HN.out, HM.out, e])
            subst hr
            have hnn : ((n : Int) != (m : Int)) = true := by simp; omega
            clear HR2
            go_enter Tryz.func31, Tryz.ntmps31
            go_wp2
            go_ret
            exact ⟨rfl, HB0.out⟩
        · have hr : r = false := by rw [HR.out]; simp [h4]
          subst hr
          subst h1; subst h2; subst h3
          clear HR
          have h4d : (dis != dis') = true := by simpa using h4
          go_enter Tryz.func31, Tryz.ntmps31
          go_wp2
          go_ret
          exact ⟨rfl, HB0.out⟩
      · have hr : r = false := by rw [HR.out]; simp [h3]
        subst hr
        subst h1; subst h2
        have hne := toList_ne6 h3
        have hne2 : (ml.toList != ml'.toList) = true := by simpa using hne
        clear HR h3
        go_enter Tryz.func31, Tryz.ntmps31
        go_wp2
        go_ret
        exact ⟨rfl, HB0.out⟩
    · have hr : r = false := by rw [HR.out]; simp [h2]
      subst hr
      subst h1
      have hne := toList_ne6 h2
      have hne2 : (hs.toList != hs'.toList) = true := by simpa using hne
      clear HR h2
      go_enter Tryz.func31, Tryz.ntmps31
      go_wp2
      go_ret
      exact ⟨rfl, HB0.out⟩
  · have hr : r = false := by rw [HR.out]; simp [h1]
    subst hr
    have hne := toList_ne6 h1
    have hne2 : (nm.toList != nm'.toList) = true := by simpa using hne
    clear HR h1
    go_enter Tryz.func31, Tryz.ntmps31
    go_wp2
    go_ret
    exact ⟨rfl, HB0.out⟩
end Go.Proofs.YtoeepbmbfambcaaGreatDoor

namespace Go.Proofs.YtoeepbmbfambcaaGreatDoor
open Go.RowKit Go.Maps Go.Sort Go.Shelf

/-- A bare user. -/
def bare7 (q : List UInt8 × List UInt8) : Us := ⟨tx7 q.1, tx7 q.2, ⟨#[]⟩, false, none, [], 0⟩
theorem bare7_ok {q : List UInt8 × List UInt8} {w : World} (h : q.1.length ≤ 12 ∧ q.2.length ≤ 12) : (bare7 q).Ok w := by
  have s1 : (tx7 q.1).size ≤ 12 := by rw [← size_list]; simpa [tx7] using h.1
  have s2 : (tx7 q.2).size ≤ 12 := by rw [← size_list]; simpa [tx7] using h.2
  exact { rd := fun h => absurd rfl h, nm := Nat.le_trans s1 (by decide), hs := Nat.le_trans s2 (by decide), ml := Nat.zero_le _, nil := fun _ => rfl, len := Nat.le_refl _, cap := Nat.zero_le _, all := fun s hs => by cases hs }
theorem Us7.rd {w : World} {A : Option Addr} {c n : Nat} {Lx : Row7} (h : Us7 w (.slice A n c) Lx) : n = (Lx.map bare7).length ∧ RdU7 w A (Lx.map bare7) := by
  obtain ⟨A', c', e, hc⟩ := h
  injection e with e1 e2 e3
  subst e1 e2 e3
  refine ⟨by simp, fun hne => ?_⟩
  have h0 : 0 < Lx.length := by
    rcases Lx with _ | ⟨q, r⟩
    · exact absurd rfl hne
    · exact Nat.succ_pos _
  obtain ⟨g, e, hg⟩ := hc 0 h0
  refine ⟨g, 0, e, World.block_lt_of_cell? w _ (hg 0 _ rfl), fun i hi j u hu => ?_⟩
  have hi' : i < Lx.length := by simpa using hi
  obtain ⟨g', e', hg'⟩ := hc i hi'
  rw [e] at e'
  injection e' with e'
  injection e' with e'
  subst e'
  have hu' : (usr7 Lx[i])[j]? = some u := by
    rw [List.getElem_map] at hu
    have : (bare7 Lx[i]).cells = (usr7 Lx[i]).toArray := rfl
    rw [this] at hu
    simpa using hu
  have := hg' j u hu'
  rwa [Nat.zero_add]

/-- What each operation makes. -/
def YSaV7 (g1 o1 g2 o2 n k c1 c2 : Nat) (a1 a2 : Array Value) : Nat → Value → World → Prop
  | 0, v, _ => v = .slice (some ⟨g1, o1, none⟩) n c1
  | 1, v, _ => v = .int .i64 k
  | 2, v, _ => v = .pointer (some ⟨g1, o1 + k * 5, none⟩)
  | 3, v, _ => v = .agg a1
  | 4, v, _ => v = .slice (some ⟨g2, o2, none⟩) n c2
  | 5, v, _ => v = .int .i64 k
  | 6, v, _ => v = .pointer (some ⟨g2, o2 + k * 5, none⟩)
  | 7, v, _ => v = .agg a2
  | 8, v, _ => v = .bool true
  | _, v, _ => v = .bool false
theorem YSaV7_keep {g1 o1 g2 o2 n k c1 c2 : Nat} {a1 a2 : Array Value} {W W' : World} (j : Nat) (z : Value) (hz : YSaV7 g1 o1 g2 o2 n k c1 c2 a1 a2 j z W) : YSaV7 g1 o1 g2 o2 n k c1 c2 a1 a2 j z W' := by
  match j, hz with
  | 0, hz => exact hz
  | 1, hz => exact hz
  | 2, hz => exact hz
  | 3, hz => exact hz
  | 4, hz => exact hz
  | 5, hz => exact hz
  | 6, hz => exact hz
  | 7, hz => exact hz
  | 8, hz => exact hz
  | _ + 9, hz => exact hz

set_option maxRecDepth 100000 in
set_option maxHeartbeats 2000000 in
theorem sameusersV_calls (A1 A2 : Option Addr) (c1 c2 n : Nat) (l1 l2 : List Us) (w : World) (hl1 : n = l1.length) (hl2 : n = l2.length) (hn : n ≤ 1000) (h1 : RdU7 w A1 l1) (h2 : RdU7 w A2 l2) (o1 : ∀ u ∈ l1, u.Ok w) (o2 : ∀ u ∈ l2, u.Ok w)
    (hs : ∀ k (i1 : k < l1.length) (i2 : k < l2.length), sameU l1[k] l2[k] = true) :
    Calls Tryz.prog 13 #[.slice A1 n c1, .slice A2 n c2] w (Tells5 true w) := by
  have hnot : ∀ (x : Bool) (w : World), (Op.unary .not (.bool x)).run Tryz.prog w = .ok (.bool (!x)) w := fun _ _ => rfl
  have H1 := Lib.hid h1
  have H2 := Lib.hid h2
  have L1 := Lib.hid hl1
  have L2 := Lib.hid hl2
  have O1 := Lib.hid o1
  have O2 := Lib.hid o2
  have HSM := Lib.hid hs
  clear h1 h2 hl1 hl2 o1 o2 hs
  go_enter Tryz.func13, Tryz.ntmps13
  go_wp2
  go_loopg [5, 13] n (fun gg _ s13 wr => ∃ k : Nat, k ≤ n ∧ n - k ≤ gg ∧ s13 = .int .i64 k ∧ Hid (Below w.heap.size w wr))
  case atStart => exact ⟨0, Nat.zero_le _, by omega, rfl, Below.refl _ _⟩
  case round =>
    obtain ⟨k, hk, hg, rfl, HW⟩ := hrel
    by_cases hlt : k < n
    · have hltz : (k : Int) < (n : Int) := by omega
      have hk1 : k < l1.length := L1.out ▸ hlt
      have hk2 : k < l2.length := L2.out ▸ hlt
      obtain ⟨g1, o1, rfl, Lg1, q1⟩ := (H1.out.later HW.out) (by intro e; rw [e] at hk1; exact absurd hk1 (Nat.not_lt_zero _))
      obtain ⟨g2, o2, rfl, Lg2, q2⟩ := (H2.out.later HW.out) (by intro e; rw [e] at hk2; exact absurd hk2 (Nat.not_lt_zero _))
      have HS : Hid (∀ W, Below wr.heap.size wr W → Calls Tryz.prog 31 #[.agg #[.string l1[k].nm, .string l1[k].hs, .string l1[k].ml, .bool l1[k].dis, .slice l1[k].ga l1[k].gs.length l1[k].gc], .agg #[.string l2[k].nm, .string l2[k].hs, .string l2[k].ml, .bool l2[k].dis, .slice l2[k].ga l2[k].gs.length l2[k].gc]] W (Tells5 true W)) := fun W hb => by
        have := rsame6_calls l1[k] l2[k] W (((O1.out _ (List.getElem_mem hk1)).below HW.out).below hb) (((O2.out _ (List.getElem_mem hk2)).below HW.out).below hb)
        rwa [HSM.out k hk1 hk2] at this
      have C10 : Hid (wr.cell? ⟨g1, o1 + k * 5, none⟩ = some (.string l1[k].nm)) := q1 k hk1 0 _ rfl
      have C11 : Hid (wr.cell? ⟨g1, o1 + k * 5 + 1, none⟩ = some (.string l1[k].hs)) := q1 k hk1 1 _ rfl
      have C12 : Hid (wr.cell? ⟨g1, o1 + k * 5 + 2, none⟩ = some (.string l1[k].ml)) := q1 k hk1 2 _ rfl
      have C13 : Hid (wr.cell? ⟨g1, o1 + k * 5 + 3, none⟩ = some (.bool l1[k].dis)) := q1 k hk1 3 _ rfl
      have C14 : Hid (wr.cell? ⟨g1, o1 + k * 5 + 4, none⟩ = some (.slice l1[k].ga l1[k].gs.length l1[k].gc)) := q1 k hk1 4 _ rfl
      have C20 : Hid (wr.cell? ⟨g2, o2 + k * 5, none⟩ = some (.string l2[k].nm)) := q2 k hk2 0 _ rfl
      have C21 : Hid (wr.cell? ⟨g2, o2 + k * 5 + 1, none⟩ = some (.string l2[k].hs)) := q2 k hk2 1 _ rfl
      have C22 : Hid (wr.cell? ⟨g2, o2 + k * 5 + 2, none⟩ = some (.string l2[k].ml)) := q2 k hk2 2 _ rfl
      have C23 : Hid (wr.cell? ⟨g2, o2 + k * 5 + 3, none⟩ = some (.bool l2[k].dis)) := q2 k hk2 3 _ rfl
      have C24 : Hid (wr.cell? ⟨g2, o2 + k * 5 + 4, none⟩ = some (.slice l2[k].ga l2[k].gs.length l2[k].gc)) := q2 k hk2 4 _ rfl
      clear q1 q2
      generalize l1[k].nm = nm1 at *
      generalize l1[k].hs = hs1 at *
      generalize l1[k].ml = ml1 at *
      generalize l1[k].dis = dis1 at *
      generalize l1[k].ga = ga1 at *
      generalize l1[k].gs.length = gl1 at *
      generalize l1[k].gc = gc1 at *
      generalize l2[k].nm = nm2 at *
      generalize l2[k].hs = hs2 at *
      generalize l2[k].ml = ml2 at *
      generalize l2[k].dis = dis2 at *
      generalize l2[k].ga = ga2 at *
      generalize l2[k].gs.length = gl2 at *
      generalize l2[k].gc = gc2 at *
      go_wp2_with fail
      refine wp_region_inv (by kernel_rfl) (fun W => Below wr.heap.size wr W) (YSaV7 g1 o1 g2 o2 n k c1 c2 #[.string nm1, .string hs1, .string ml1, .bool dis1, .slice ga1 gl1 gc1] #[.string nm2, .string hs2, .string ml2, .bool dis2, .slice ga2 gl2 gc2]) ?F ?hF (by kernel_rfl) (by kernel_rfl) (below_drew (Below.refl _ _)) ?step ?fin
      case hF =>
        intro x
        simp only [List.map_cons, List.map_nil, putL, Act.put, List.setIfInBounds_toArray, List.set_cons_zero, List.set_cons_succ, Nat.zero_add, Nat.reduceAdd]
        exact rfl
      case step =>
        refine ⟨?_, ?_, ?_, ?_, ?_, ?_, ?_, ?_, ?_, ?_, trivial⟩
        all_goals intro x W hW hdep K hK
        · clear hdep
          go_simp
          exact hK _ _ rfl hW (fun _ _ h => h)
        · clear hdep
          go_simp
          exact hK _ _ rfl hW (fun _ _ h => h)
        · have h0 : x 0 = _ := hdep 0 rfl
          have h1 : x 1 = _ := hdep 1 rfl
          clear hdep
          simp only [h0, h1] at hK
          go_simp
          exact hK _ _ rfl hW (fun _ _ h => h)
        · have h2 : x 2 = _ := hdep 2 rfl
          have d0 := (hW.cell (p := ⟨g1, o1 + k * 5, none⟩) Lg1).trans C10.out
          have d1 := (hW.cell (p := ⟨g1, o1 + k * 5 + 1, none⟩) Lg1).trans C11.out
          have d2 := (hW.cell (p := ⟨g1, o1 + k * 5 + 2, none⟩) Lg1).trans C12.out
          have d3 := (hW.cell (p := ⟨g1, o1 + k * 5 + 3, none⟩) Lg1).trans C13.out
          have d4 := (hW.cell (p := ⟨g1, o1 + k * 5 + 4, none⟩) Lg1).trans C14.out
          clear hdep
          simp only [h2] at hK
          go_simp
          exact hK _ _ rfl hW (fun _ _ h => h)
        · clear hdep
          go_simp
          exact hK _ _ rfl hW (fun _ _ h => h)
        · clear hdep
          go_simp
          exact hK _ _ rfl hW (fun _ _ h => h)
        · have h4 : x 4 = _ := hdep 4 rfl
          have h5 : x 5 = _ := hdep 5 rfl
          clear hdep
          simp only [h4, h5] at hK
          go_simp
          exact hK _ _ rfl hW (fun _ _ h => h)
        · have h6 : x 6 = _ := hdep 6 rfl
          have d0 := (hW.cell (p := ⟨g2, o2 + k * 5, none⟩) Lg2).trans C20.out
          have d1 := (hW.cell (p := ⟨g2, o2 + k * 5 + 1, none⟩) Lg2).trans C21.out
          have d2 := (hW.cell (p := ⟨g2, o2 + k * 5 + 2, none⟩) Lg2).trans C22.out
          have d3 := (hW.cell (p := ⟨g2, o2 + k * 5 + 3, none⟩) Lg2).trans C23.out
          have d4 := (hW.cell (p := ⟨g2, o2 + k * 5 + 4, none⟩) Lg2).trans C24.out
          clear hdep
          simp only [h6] at hK
          go_simp
          exact hK _ _ rfl hW (fun _ _ h => h)
        · have h3 : x 3 = _ := hdep 3 rfl
          have h7 : x 7 = _ := hdep 7 rfl
          clear hdep
          simp only [h3, h7] at hK
          go_simp
          refine (HS.out W hW).mono ?_
          rintro e W' ⟨rfl, hb⟩
          exact hK _ _ rfl (below_next hW hb) (fun j u hz => YSaV7_keep j u hz)
        · have h8 : x 8 = _ := hdep 8 rfl
          clear hdep
          simp only [h8] at hK
          go_simp
          exact hK _ _ rfl hW (fun _ _ h => h)
      case fin =>
        intro x W hW hY
        have h9 : x 9 = .bool false := hY 9 (by decide)
        have HF := Lib.hid (below_next HW.out hW)
        clear hY hW Lg1 Lg2
        rw [h9]
        go_wp2
        go_roundg (n - (k + 1))
        case measure => omega
        case rel => exact ⟨k + 1, by omega, by omega, by go_num, HF⟩
    · have hltz : ¬ (k : Int) < (n : Int) := by omega
      obtain rfl : k = n := by omega
      go_wp2
      go_ret
      exact ⟨rfl, HW.out⟩
end Go.Proofs.YtoeepbmbfambcaaGreatDoor

namespace Go.Proofs.YtoeepbmbfambcaaGreatDoor
open Go.RowKit Go.Maps Go.Sort Go.Shelf

/-- Users' cells, in a row. -/
def ucells (l : List Us) : List Value := l.flatMap fun u => u.cells.toList
theorem ucells_length (l : List Us) : (ucells l).length = l.length * 5 := by
  induction l with
  | nil => rfl
  | cons u l ih =>
    have : ucells (u :: l) = u.cells.toList ++ ucells l := rfl
    rw [this, List.length_append, ih, List.length_cons]
    have : u.cells.toList.length = 5 := rfl
    omega
theorem ucells_at (l : List Us) (i j : Nat) (hi : i < l.length) (hj : j < 5) : (ucells l)[i * 5 + j]? = l[i].cells[j]? := by
  induction l generalizing i with
  | nil => exact absurd hi (Nat.not_lt_zero _)
  | cons u l ih =>
    have e : ucells (u :: l) = u.cells.toList ++ ucells l := rfl
    have h5 : u.cells.toList.length = 5 := rfl
    rw [e]
    cases i with
    | zero =>
      rw [List.getElem?_append_left (by omega), Nat.zero_mul, Nat.zero_add]
      simp
    | succ i =>
      rw [List.getElem?_append_right (by omega), h5, show (i + 1) * 5 + j - 5 = i * 5 + j by omega]
      exact ih i (by simpa using hi)
theorem RdU7.src {w : World} {A : Option Addr} {l : List Us} (h : RdU7 w A l) (c : Nat) : Src Tryz.prog 5 22 (.slice A l.length c) l.length (ucells l) w := by
  have hk : Tryz.prog.underlying 22 = some (.slice 43) := Tryz.underlying22
  by_cases hl : l = []
  · subst hl
    cases A with
    | none => exact Src.ofNil w hk c
    | some ad => exact Src.ofSlice w hk ad 0 c [] rfl (fun j u hu => by simp at hu) (fun u hu => by cases hu)
  · obtain ⟨b, off, rfl, _, hc⟩ := h hl
    refine Src.ofSlice w hk ⟨b, off, none⟩ l.length c _ (ucells_length l) (fun j u hu => ?_) (fun u hu => ?_)
    · have hlt : j < (ucells l).length := (List.getElem?_eq_some_iff.1 hu).1
      rw [ucells_length] at hlt
      have hi : j / 5 < l.length := by omega
      have hj : j / 5 * 5 + j % 5 = j := by omega
      have h5 : j % 5 < 5 := by omega
      have := ucells_at l (j / 5) (j % 5) hi h5
      rw [hj, hu] at this
      have h2 := hc (j / 5) hi (j % 5) u this.symm
      rw [Addr.add_lit]
      rwa [show off + j / 5 * 5 + j % 5 = off + j by omega] at h2
    · unfold ucells at hu
      rw [List.mem_flatMap] at hu
      obtain ⟨x, _, hx⟩ := hu
      simp only [Us.cells, List.mem_cons, List.not_mem_nil, or_false] at hx
      rcases hx with rfl | rfl | rfl | rfl | rfl <;> rfl
theorem owns_users {w : World} {b0 n c : Nat} {A : Option Addr} {l : List Us} (ho : w.ownsRow b0 43 5 (.slice A n c) n (ucells l)) (hn : n = l.length) : RdU7 w A l := by
  intro hl
  have hp : 0 < l.length := List.length_pos_iff.2 hl
  obtain ⟨g, cap, hv, _, hg⟩ := ho.form (by omega)
  injection hv with hA _ hc
  subst hA hc
  refine ⟨g, 0, rfl, hg, fun i hi j u hu => ?_⟩
  have h5 : j < 5 := by
    have := (Array.getElem?_eq_some_iff.1 hu).1
    exact this
  have := ho.cellAt (i * 5 + j) (by omega)
  rw [ucells_at l i j hi h5, hu] at this
  rwa [Nat.zero_add]

theorem bare7_same {u : Us} (h : chk6 1 u = 0) : sameU (bare7 (u.nm.data.toList, u.hs.data.toList)) u = true := by
  unfold chk6 at h
  rw [if_pos rfl] at h
  have hb : bare6 u = true := err5_zero (n := 12) (by decide) (first6_zero h _ (by simp))
  unfold bare6 sameU upU at hb
  unfold sameU bare7
  simp only [Bool.and_eq_true, decide_eq_true_eq] at hb ⊢
  obtain ⟨⟨⟨⟨_, _⟩, h3⟩, h4⟩, h5⟩ := hb
  exact ⟨⟨⟨⟨tx7_back _, tx7_back _⟩, h3.symm⟩, h4.symm⟩, h5.symm⟩

/-- A loop that stores into a row of users, beside a directory; at the place o of each user lies a text. -/
structure Lo7 (w : World) (B : Nat) (p : Option Nat) (L : Row7) (v : Value) (n o : Nat) (W : World) : Prop where
  bel : Below w.heap.size w W
  dir : Dir7 W B p L
  row : ∃ xs, W.ownsRow 0 43 5 v n xs ∧ ∀ i, i < n → ∃ s, xs[i * 5 + o]? = some (.string s)
  far : ∀ k, v.ownBlock = some k → w.heap.size ≤ k ∧ B ≠ k ∧ p ≠ some k
theorem Lo7.below {w W W' : World} {B : Nat} {p : Option Nat} {L : Row7} {v : Value} {n o : Nat} (h : Lo7 w B p L v n o W) (hb : Below W.heap.size W W') : Lo7 w B p L v n o W' := by
  obtain ⟨xs, ho, hx⟩ := h.row
  exact ⟨below_next h.bel hb, h.dir.later hb, ⟨xs, (Turns.of_below hb (fun _ => False)).owns ho (fun _ _ f => f), hx⟩, h.far⟩
theorem Lo7.form {w W : World} {B : Nat} {p : Option Nat} {L : Row7} {A : Option Addr} {n c o : Nat} (h : Lo7 w B p L (.slice A n c) n o W) (hn : 0 < n) : ∃ g, A = some ⟨g, 0, none⟩ := by
  obtain ⟨xs, ho, _⟩ := h.row
  obtain ⟨g, cap, hv, _, _⟩ := ho.form hn
  injection hv with hA
  exact ⟨g, hA⟩
theorem Lo7.store {w W : World} {B : Nat} {p : Option Nat} {L : Row7} {g n c o : Nat} (h : Lo7 w B p L (.slice (some ⟨g, 0, none⟩) n c) n o W) (ho5 : o < 5) (k : Nat) (hk : k < n) (s : ByteArray) :
    (∃ x, W.cell? ⟨g, k * 5 + o, none⟩ = some (.string x)) ∧ W.frozen? ⟨g, k * 5 + o, none⟩ = false ∧ Lo7 w B p L (.slice (some ⟨g, 0, none⟩) n c) n o (W.setCell ⟨g, k * 5 + o, none⟩ (.string s)) := by
  obtain ⟨xs, ho, hx⟩ := h.row
  obtain ⟨h1, h2, h3⟩ := h.far g rfl
  have hc := ho.cellAt (k * 5 + o) (by omega)
  obtain ⟨x, hxk⟩ := hx k hk
  rw [hxk] at hc
  have ht : Turns (fun i => i = g) W (W.setCell ⟨g, k * 5 + o, none⟩ (.string s)) := (Turns.refl (fun i => i = g) W).setCell (p := ⟨g, k * 5 + o, none⟩) (fun _ => rfl) _
  refine ⟨⟨x, hc⟩, ho.frozenAt _, h.bel.setCell (p := ⟨g, k * 5 + o, none⟩) h1 _, h.dir.turns ht h2 (fun b hb e => h3 (by rw [hb, e])), ⟨_, (ho.stored (k * 5 + o) (.string s)).1, fun i hi => ?_⟩, h.far⟩
  rw [List.getElem?_set]
  split
  · split
    · exact ⟨s, rfl⟩
    · next he hlt =>
      obtain ⟨y, hy⟩ := hx i hi
      have := (List.getElem?_eq_some_iff.1 hy).1
      omega
  · exact hx i hi
theorem Lo7.of_cells {w W : World} {B : Nat} {p : Option Nat} {L : Row7} {A : Option Addr} {l : List Us} {n c : Nat} (hb : Below w.heap.size w W) (hd : Dir7 W B p L) (ho : W.ownsRow 0 43 5 (.slice A n c) n (ucells l)) (hn : n = l.length)
    (hf : ∀ k, (Value.slice A n c).ownBlock = some k → w.heap.size ≤ k ∧ B ≠ k ∧ p ≠ some k) (o : Nat) (ho2 : o < 2) : Lo7 w B p L (.slice A n c) n o W := by
  refine ⟨hb, hd, ⟨_, ho, fun i hi => ?_⟩, hf⟩
  rw [ucells_at l i o (by omega) (by omega)]
  rcases o with _ | _ | o
  · exact ⟨_, rfl⟩
  · exact ⟨_, rfl⟩
  · omega
theorem users7_cells (L : Row7) : L.flatMap usr7 = ucells (L.map bare7) := by
  unfold ucells
  rw [List.flatMap_map]
  rfl
theorem rowU_length (l : List Us) : (rowU l).length = l.length := List.length_map _
end Go.Proofs.YtoeepbmbfambcaaGreatDoor

namespace Go.Proofs.YtoeepbmbfambcaaGreatDoor
open Go.RowKit Go.Maps Go.Sort Go.Shelf

theorem le_val8 : ∀ m : List UInt8, le (val m) m.length = m
  | [] => rfl
  | b :: l => by
    have hb : b.toNat < 256 := b.toNat_lt
    rw [val, List.length_cons, le_cons, show (b.toNat + 256 * val l) / 256 = val l by omega, le_val8 l]
    congr 1
    apply UInt8.toNat_inj.1
    simp only [UInt8.toNat_ofNat']
    omega

/-- The name and the sum that a step tells; with an error none. -/
def tell8 (st : St) : List UInt8 × List UInt8 := if (getS 1 st).1.e = 0 then ((textS st 65535).2, (textS (textS st 65535).1 65535).2) else ([], [])
/-- What is read of so many users, and what is left. -/
def usersS : Nat → St → St × Row7
  | 0, st => (st, [])
  | k + 1, st => ((usersS k (getS 1 st).1).1, tell8 st :: (usersS k (getS 1 st).1).2)
/-- Behind the schema: how many there are, the users, and whether they may be. -/
def rowS8 (st : St) : St × Row7 :=
  if 12 < (numS st 2).2 then (failS (numS st 2).1 7, [])
  else (failS (usersS (numS st 2).2 (numS st 2).1).1 (ofE ((usersS (numS st 2).2 (numS st 2).1).2.map bare7)), (usersS (numS st 2).2 (numS st 2).1).2)
/-- Whether bytes are left. -/
def endS8 (r : St × Row7) : Int × Row7 := if r.1.e ≠ 0 then (r.1.e, []) else if 0 < r.1.bs.length then (3, []) else (0, r.2)
/-- The error, and the row of a directory's bytes. -/
def readS : List UInt8 → Int × Row7
  | [] => (2, [])
  | b :: r => if b = 1 then endS8 (rowS8 ⟨r, 0⟩) else (6, [])

theorem readS_cons (b : UInt8) (r : List UInt8) : readS (b :: r) = if b = 1 then endS8 (rowS8 ⟨r, 0⟩) else (6, []) := rfl
/-- A user's bytes. -/
def pairB (q : List UInt8 × List UInt8) : List UInt8 := userB 1 (bare7 q)
/-- A row's bytes. -/
def shotR (L : Row7) : List UInt8 := le 1 1 ++ (le L.length 2 ++ L.flatMap pairB)

/-! ### The code's way -/
/-- Behind the schema. -/
def schemaS (st : St) : St := if (numS st 1).2 = 1 then (numS st 1).1 else failS (numS st 1).1 6
/-- Behind how many there are. -/
def countS (st : St) : St × Nat := if 12 < (numS st 2).2 then (failS (numS st 2).1 7, 0) else numS st 2
/-- What the code tells of the users that were read. -/
def codeS (r : St × Row7) : Int × Row7 := if r.1.e ≠ 0 then (r.1.e, []) else if ofE (r.2.map bare7) ≠ 0 then (ofE (r.2.map bare7), []) else if endS r.1 ≠ 0 then (endS r.1, []) else (0, r.2)

theorem failS_e8 {st : St} {e : Int} (h : st.e ≠ 0) : failS st e = st := by unfold failS; rw [if_pos (.inr h)]
theorem failS_z8 (st : St) : failS st 0 = st := by unfold failS; rw [if_pos (.inl rfl)]
theorem failS_zero8 {st : St} {e : Int} (h : (failS st e).e = 0) : e = 0 ∧ st.e = 0 ∧ failS st e = st := by
  by_cases he : e = 0
  · subst he
    rw [failS_z8] at h ⊢
    exact ⟨rfl, h, rfl⟩
  · unfold failS at h
    by_cases hs : st.e = 0
    · rw [if_neg (by simp [he, hs])] at h
      exact absurd h he
    · rw [if_pos (.inr hs)] at h
      exact absurd h hs
theorem takeS_keep8 {st : St} (n : Nat) (h : st.e ≠ 0) : (takeS st n).1.e = st.e := by
  unfold takeS
  split
  · rw [failS_e8 h]
  · rfl
theorem failS_keep8 {st : St} (e : Int) (h : st.e ≠ 0) : (failS st e).e = st.e := by rw [failS_e8 h]
theorem numS_keep8 {st : St} (n : Nat) (h : st.e ≠ 0) : (numS st n).1.e = st.e := takeS_keep8 n h
theorem lengthS_keep8 {st : St} (m : Int) (h : st.e ≠ 0) : (lengthS st m).1.e = st.e := by
  have h1 := numS_keep8 2 h
  unfold lengthS
  split
  · rw [failS_keep8 _ (by rw [h1]; exact h), h1]
  · exact h1
theorem textS_keep8 {st : St} (m : Int) (h : st.e ≠ 0) : (textS st m).1.e = st.e := by
  have h1 := lengthS_keep8 m h
  unfold textS
  rw [takeS_keep8 _ (by rw [h1]; exact h), h1]
theorem getS18 (st : St) : getS 1 st = (failS (textS (textS st 65535).1 65535).1 (chk6 1 (one6 (textS st 65535).2 (textS (textS st 65535).1 65535).2)), one6 (textS st 65535).2 (textS (textS st 65535).1 65535).2) := by
  unfold getS one6S
  rw [if_pos rfl]
theorem getS1_keep8 {st : St} (h : st.e ≠ 0) : (getS 1 st).1.e = st.e := by
  have h1 := textS_keep8 65535 h
  have h2 := textS_keep8 (st := (textS st 65535).1) 65535 (by rw [h1]; exact h)
  rw [getS18]
  dsimp only
  rw [failS_keep8 _ (by rw [h2, h1]; exact h), h2, h1]
theorem getS1_left8 (st : St) : (getS 1 st).1.bs.length ≤ st.bs.length := by
  rw [getS18]
  exact Nat.le_trans (failS_length _ _) (Nat.le_trans (textS_left _ _) (textS_left _ _))
theorem usersS_keep8 : ∀ (k : Nat) {st : St}, st.e ≠ 0 → (usersS k st).1.e = st.e
  | 0, _, _ => rfl
  | k + 1, st, h => by
    have h1 := getS1_keep8 h
    show (usersS k (getS 1 st).1).1.e = _
    rw [usersS_keep8 k (by rw [h1]; exact h), h1]
theorem usersS_length8 : ∀ (k : Nat) (st : St), (usersS k st).2.length = k
  | 0, _ => rfl
  | k + 1, st => by
    show (tell8 st :: (usersS k (getS 1 st).1).2).length = _
    rw [List.length_cons, usersS_length8 k]
theorem usersS_left8 : ∀ (k : Nat) (st : St), (usersS k st).1.bs.length ≤ st.bs.length
  | 0, _ => Nat.le_refl _
  | k + 1, st => Nat.le_trans (usersS_left8 k _) (getS1_left8 st)

/-! ### What was read is what is written -/
theorem takeS_got8 {st : St} {n : Nat} (h : (takeS st n).1.e = 0) : st.e = 0 ∧ (takeS st n).2.length = n ∧ st.bs = (takeS st n).2 ++ (takeS st n).1.bs := by
  unfold takeS at h ⊢
  by_cases hl : st.bs.length < n
  · rw [if_pos hl] at h
    obtain ⟨h1, _⟩ := failS_zero8 h
    cases h1
  · rw [if_neg hl] at h ⊢
    exact ⟨h, by simp only [List.length_take]; omega, (List.take_append_drop n st.bs).symm⟩
theorem numS_got8 {st : St} {n : Nat} (h : (numS st n).1.e = 0) : st.e = 0 ∧ st.bs = le (numS st n).2 n ++ (numS st n).1.bs := by
  obtain ⟨h1, h2, h3⟩ := takeS_got8 (st := st) (n := n) h
  refine ⟨h1, ?_⟩
  have := le_val8 (takeS st n).2
  rw [h2] at this
  show st.bs = le (val (takeS st n).2) n ++ (takeS st n).1.bs
  rw [this]
  exact h3
theorem textS_got8 {st : St} {m : Int} (h : (textS st m).1.e = 0) : st.e = 0 ∧ st.bs = textB (mk6 (textS st m).2) ++ (textS st m).1.bs := by
  obtain ⟨h1, h2, h3⟩ := takeS_got8 (st := (lengthS st m).1) (n := (lengthS st m).2) h
  have h4 : (lengthS st m) = ((numS st 2).1, (numS st 2).2) := by
    unfold lengthS at h1 ⊢
    split at h1
    · obtain ⟨h5, _⟩ := failS_zero8 h1
      cases h5
    · rename_i hc
      rw [if_neg hc]
  have h5 : (numS st 2).1.e = 0 := by rw [h4] at h1; exact h1
  obtain ⟨h6, h7⟩ := numS_got8 h5
  refine ⟨h6, ?_⟩
  have e1 : (lengthS st m).1 = (numS st 2).1 := by rw [h4]
  have e2 : (lengthS st m).2 = (numS st 2).2 := by rw [h4]
  show st.bs = textB (mk6 (takeS (lengthS st m).1 (lengthS st m).2).2) ++ (takeS (lengthS st m).1 (lengthS st m).2).1.bs
  have h8 : (mk6 (takeS (lengthS st m).1 (lengthS st m).2).2).data.toList = (takeS (lengthS st m).1 (lengthS st m).2).2 := by simp [mk6]
  unfold textB
  rw [mk6_size, h8, h2, e2, h7, List.append_assoc, ← e1]
  rw [e2] at h3
  rw [← h3]
theorem getS1_got8 {st : St} (h : (getS 1 st).1.e = 0) : st.e = 0 ∧ chk6 1 (bare7 (tell8 st)) = 0 ∧ st.bs = pairB (tell8 st) ++ (getS 1 st).1.bs := by
  have ht : tell8 st = ((textS st 65535).2, (textS (textS st 65535).1 65535).2) := by unfold tell8; rw [if_pos h]
  rw [getS18] at h
  obtain ⟨h1, h2, h3⟩ := failS_zero8 h
  obtain ⟨h4, h5⟩ := textS_got8 h2
  obtain ⟨h6, h7⟩ := textS_got8 h4
  rw [ht]
  refine ⟨h6, h1, ?_⟩
  rw [getS18]
  dsimp only
  rw [h3]
  show st.bs = (textB (mk6 (textS st 65535).2) ++ textB (mk6 (textS (textS st 65535).1 65535).2) ++ []) ++ _
  rw [h7, List.append_nil, List.append_assoc, ← h5]
theorem usersS_got8 : ∀ (k : Nat) {st : St}, (usersS k st).1.e = 0 → st.e = 0 ∧ (∀ q ∈ (usersS k st).2, chk6 1 (bare7 q) = 0) ∧ st.bs = (usersS k st).2.flatMap pairB ++ (usersS k st).1.bs
  | 0, st, h => ⟨h, (fun q hq => by cases hq), by simp [usersS]⟩
  | k + 1, st, h => by
    obtain ⟨h1, h2, h3⟩ := usersS_got8 k (st := (getS 1 st).1) h
    obtain ⟨h4, h5, h6⟩ := getS1_got8 h1
    refine ⟨h4, fun q hq => ?_, ?_⟩
    · rcases List.mem_cons.1 hq with rfl | hq
      · exact h5
      · exact h2 q hq
    · show st.bs = (tell8 st :: (usersS k (getS 1 st).1).2).flatMap pairB ++ (usersS k (getS 1 st).1).1.bs
      rw [List.flatMap_cons, List.append_assoc, ← h3]
      exact h6
theorem rowS8_got8 {st : St} (h : (rowS8 st).1.e = 0) : st.e = 0 ∧ (∀ q ∈ (rowS8 st).2, chk6 1 (bare7 q) = 0) ∧ ofE ((rowS8 st).2.map bare7) = 0 ∧ st.bs = le (rowS8 st).2.length 2 ++ ((rowS8 st).2.flatMap pairB ++ (rowS8 st).1.bs) := by
  unfold rowS8 at h ⊢
  by_cases hc : 12 < (numS st 2).2
  · rw [if_pos hc] at h
    obtain ⟨h1, _⟩ := failS_zero8 h
    cases h1
  · rw [if_neg hc] at h ⊢
    dsimp only at h ⊢
    obtain ⟨h1, h2, h3⟩ := failS_zero8 h
    obtain ⟨h4, h5, h6⟩ := usersS_got8 _ h2
    obtain ⟨h7, h8⟩ := numS_got8 h4
    refine ⟨h7, h5, h1, ?_⟩
    rw [h3, usersS_length8, ← h6]
    exact h8
theorem readS_got {bs : List UInt8} (h : (readS bs).1 = 0) : (∀ q ∈ (readS bs).2, chk6 1 (bare7 q) = 0) ∧ ofE ((readS bs).2.map bare7) = 0 ∧ shotR (readS bs).2 = bs := by
  cases bs with
  | nil => cases h
  | cons b r =>
    rw [readS_cons] at h ⊢
    by_cases hb : b = 1
    · rw [if_pos hb] at h ⊢
      unfold endS8 at h ⊢
      by_cases he : (rowS8 ⟨r, 0⟩).1.e ≠ 0
      · rw [if_pos he] at h
        exact absurd h he
      · rw [if_neg he] at h ⊢
        by_cases hl : 0 < (rowS8 ⟨r, 0⟩).1.bs.length
        · rw [if_pos hl] at h
          cases h
        · rw [if_neg hl]
          obtain ⟨_, h2, h3, h4⟩ := rowS8_got8 (st := ⟨r, 0⟩) (by simpa using he)
          refine ⟨h2, h3, ?_⟩
          have h5 : (rowS8 ⟨r, 0⟩).1.bs = [] := List.eq_nil_of_length_eq_zero (by omega)
          rw [h5, List.append_nil] at h4
          unfold shotR
          dsimp only at h4 ⊢
          rw [← h4, hb]
          rfl
    · rw [if_neg hb] at h
      cases h

/-! ### What is written is read -/
theorem bare_of8 {u : Us} (h : chk6 1 u = 0) : u = { bare7 (u.nm.data.toList, u.hs.data.toList) with ga := u.ga, gc := u.gc } := by
  obtain ⟨e1, e2, e3⟩ := bare6_eq (chk6_one h)
  obtain ⟨nm, hs, ml, dis, ga, gs, gc⟩ := u
  dsimp only at e1 e2 e3
  subst e1 e2 e3
  unfold bare7
  simp [tx7_back]
theorem chk_bare8 {u : Us} (h : chk6 1 u = 0) : chk6 1 (bare7 (u.nm.data.toList, u.hs.data.toList)) = 0 := by
  rw [bare_of8 h] at h
  exact h
theorem pairB_of8 {u : Us} (h : chk6 1 u = 0) : userB 1 u = pairB (u.nm.data.toList, u.hs.data.toList) := by
  rw [bare_of8 h]
  unfold pairB bare7
  simp [tx7_list, userB]
theorem pair_little8 {q : List UInt8 × List UInt8} (h : chk6 1 (bare7 q) = 0) : q.1.length ≤ 12 ∧ q.2.length ≤ 12 := by
  obtain ⟨hl, _⟩ := chk6_little h
  have h1 := hl.nm
  have h2 := hl.hs
  unfold bare7 at h1 h2
  dsimp only at h1 h2
  rw [← size_list, tx7_list] at h1 h2
  exact ⟨h1, h2⟩
theorem pairB_length8 {q : List UInt8 × List UInt8} (h : chk6 1 (bare7 q) = 0) : (pairB q).length ≤ 28 := by
  obtain ⟨hl, _⟩ := chk6_little h
  have h1 := hl.nm
  have h2 := hl.hs
  show (textB (bare7 q).nm ++ textB (bare7 q).hs ++ []).length ≤ 28
  rw [List.append_nil, List.length_append, textB_length, textB_length]
  omega
theorem pairsB_length8 : ∀ {L : Row7}, (∀ q ∈ L, chk6 1 (bare7 q) = 0) → (L.flatMap pairB).length ≤ 28 * L.length
  | [], _ => Nat.le_refl _
  | q :: L, h => by
    have h1 := pairB_length8 (h q (List.mem_cons_self ..))
    have h2 := pairsB_length8 (L := L) (fun x hx => h x (List.mem_cons_of_mem _ hx))
    rw [List.flatMap_cons, List.length_append, List.length_cons]
    omega
theorem shotR_length {L : Row7} (h : ∀ q ∈ L, chk6 1 (bare7 q) = 0) (hl : L.length ≤ 12) : (shotR L).length ≤ 400 := by
  have := pairsB_length8 h
  unfold shotR
  rw [List.length_append, List.length_append, le_length, le_length]
  omega
theorem getS1_put8 {q : List UInt8 × List UInt8} (h : chk6 1 (bare7 q) = 0) (r : List UInt8) : (getS 1 ⟨pairB q ++ r, 0⟩).1 = ⟨r, 0⟩ ∧ tell8 ⟨pairB q ++ r, 0⟩ = q := by
  obtain ⟨hl, _⟩ := chk6_little h
  have n1 := hl.nm
  have n2 := hl.hs
  have e0 : pairB q ++ r = textB (tx7 q.1) ++ (textB (tx7 q.2) ++ r) := by
    show textB (tx7 q.1) ++ textB (tx7 q.2) ++ [] ++ r = _
    rw [List.append_nil, List.append_assoc]
  have g1 : textS ⟨pairB q ++ r, 0⟩ 65535 = (⟨textB (tx7 q.2) ++ r, 0⟩, q.1) := by
    rw [e0, textS_put6 (tx7 q.1) _ 65535 (Nat.le_trans n1 (by omega)) (by have : (tx7 q.1).size ≤ 12 := n1; omega), tx7_list]
  have g2 : textS ⟨textB (tx7 q.2) ++ r, 0⟩ 65535 = (⟨r, 0⟩, q.2) := by
    rw [textS_put6 (tx7 q.2) _ 65535 (Nat.le_trans n2 (by omega)) (by have : (tx7 q.2).size ≤ 12 := n2; omega), tx7_list]
  have g3 : (getS 1 ⟨pairB q ++ r, 0⟩).1 = ⟨r, 0⟩ := by
    rw [getS18]
    simp only [g1, g2]
    rw [show chk6 1 (one6 q.1 q.2) = 0 from h, failS_z8]
  refine ⟨g3, ?_⟩
  unfold tell8
  rw [g3, if_pos rfl]
  simp only [g1, g2]
theorem usersS_put8 : ∀ (L : Row7) (r : List UInt8), (∀ q ∈ L, chk6 1 (bare7 q) = 0) → usersS L.length ⟨L.flatMap pairB ++ r, 0⟩ = (⟨r, 0⟩, L)
  | [], r, _ => rfl
  | q :: L, r, h => by
    obtain ⟨h1, h2⟩ := getS1_put8 (h q (List.mem_cons_self ..)) (L.flatMap pairB ++ r)
    have e : (q :: L).flatMap pairB ++ r = pairB q ++ (L.flatMap pairB ++ r) := by rw [List.flatMap_cons, List.append_assoc]
    rw [e, List.length_cons, usersS, h1, h2, usersS_put8 L r (fun x hx => h x (List.mem_cons_of_mem _ hx))]
theorem readS_put {L : Row7} (h : ∀ q ∈ L, chk6 1 (bare7 q) = 0) (ho : ofE (L.map bare7) = 0) (hl : L.length ≤ 12) : readS (shotR L) = (0, L) := by
  have e : shotR L = 1 :: (le L.length 2 ++ (L.flatMap pairB ++ [])) := by
    unfold shotR
    rw [List.append_nil]
    rfl
  have hn : numS ⟨le L.length 2 ++ (L.flatMap pairB ++ []), 0⟩ 2 = (⟨L.flatMap pairB ++ [], 0⟩, L.length) := by
    rw [numS_put6, Nat.mod_eq_of_lt (by omega)]
  have hr : rowS8 ⟨le L.length 2 ++ (L.flatMap pairB ++ []), 0⟩ = (⟨[], 0⟩, L) := by
    unfold rowS8
    rw [hn]
    dsimp only
    rw [if_neg (by omega), usersS_put8 L [] h]
    dsimp only
    rw [ho, failS_z8]
  rw [e, readS, if_pos rfl, hr]
  rfl
theorem shotR_inj {L M : Row7} (h1 : ∀ q ∈ L, chk6 1 (bare7 q) = 0) (o1 : ofE (L.map bare7) = 0) (l1 : L.length ≤ 12) (h2 : ∀ q ∈ M, chk6 1 (bare7 q) = 0) (o2 : ofE (M.map bare7) = 0) (l2 : M.length ≤ 12) (h : shotR L = shotR M) : L = M := by
  have e1 := readS_put h1 o1 l1
  have e2 := readS_put h2 o2 l2
  rw [h, e2] at e1
  exact (congrArg Prod.snd e1).symm

/-- Users that may be all. -/
structure May8 (l : List Us) : Prop where
  all : ∀ q ∈ rowU l, chk6 1 (bare7 q) = 0
  of : ofE ((rowU l).map bare7) = 0
  few : (rowU l).length ≤ 12
theorem rowU_bare : ∀ (L : Row7), rowU (L.map bare7) = L
  | [] => rfl
  | q :: L => by
    show ((bare7 q).nm.data.toList, (bare7 q).hs.data.toList) :: rowU (L.map bare7) = _
    rw [rowU_bare L]
    unfold bare7
    dsimp only
    rw [tx7_list, tx7_list]
theorem mayE_of8 : ∀ {l : List Us}, (∀ u ∈ l, chk6 1 u = 0) → mayE l = 0
  | [], _ => rfl
  | u :: l, h => by
    unfold mayE
    rw [if_pos (h u (List.mem_cons_self ..))]
    exact mayE_of8 (fun x hx => h x (List.mem_cons_of_mem _ hx))
theorem may8 {l : List Us} (h : ofE l = 0) : May8 l := by
  obtain ⟨h1, h2, h3, _⟩ := ofE_zero h
  have ha : ∀ q ∈ rowU l, chk6 1 (bare7 q) = 0 := fun q hq => by
    obtain ⟨u, hu, rfl⟩ := List.mem_map.1 hq
    exact chk_bare8 (h1 u hu)
  refine ⟨ha, ?_, by rw [rowU_length]; exact h3⟩
  have e1 : mayE l = 0 := mayE_of8 h1
  have e2 : mayE ((rowU l).map bare7) = 0 := mayE_of8 fun u hu => by
    obtain ⟨q, hq, rfl⟩ := List.mem_map.1 hu
    exact ha q hq
  have e3 : ((rowU l).map bare7).map (·.nm) = l.map (·.nm) := by
    unfold rowU
    rw [List.map_map, List.map_map]
    apply List.map_congr_left
    intro u _
    show (bare7 (u.nm.data.toList, u.hs.data.toList)).nm = u.nm
    unfold bare7
    dsimp only
    rw [tx7_back]
  unfold ofE at h ⊢
  rw [e2, e3, List.length_map, rowU_length]
  rwa [e1] at h
theorem usersB_of {l : List Us} (h : ∀ u ∈ l, chk6 1 u = 0) : l.flatMap (userB 1) = (rowU l).flatMap pairB := by
  unfold rowU
  rw [List.flatMap_map]
  induction l with
  | nil => rfl
  | cons u l ih =>
    rw [List.flatMap_cons, List.flatMap_cons, ih (fun x hx => h x (List.mem_cons_of_mem _ hx)), pairB_of8 (h u (List.mem_cons_self ..))]

/-! ### The code's way is the document's -/
theorem readS_code (bs : List UInt8) : codeS (usersS (countS (schemaS ⟨bs, 0⟩)).2 (countS (schemaS ⟨bs, 0⟩)).1) = readS bs := by
  have hend : ∀ (st : St), st.e = 0 → endS st = if 0 < st.bs.length then 3 else 0 := fun st h => by unfold endS; rw [h]
  have hstop : ∀ (st : St) (e : Int), st.e = e → e ≠ 0 → st.bs = [] → codeS (usersS (countS st).2 (countS st).1) = (e, []) := fun st e h1 h2 h3 => by
    have hn : (numS st 2).1.e = e ∧ (numS st 2).2 = 0 := by
      have := numS_keep8 2 (st := st) (by rw [h1]; exact h2)
      refine ⟨by rw [this, h1], ?_⟩
      unfold numS takeS
      rw [if_pos (by rw [h3]; decide)]
      rfl
    have hc : countS st = numS st 2 := by unfold countS; rw [if_neg (by omega)]
    rw [hc, hn.2]
    show codeS ((numS st 2).1, []) = _
    unfold codeS
    rw [if_pos (by show (numS st 2).1.e ≠ 0; rw [hn.1]; exact h2)]
    show ((numS st 2).1.e, _) = _
    rw [hn.1]
  cases bs with
  | nil => exact hstop _ 2 rfl (by decide) rfl
  | cons b r =>
    have hnum : numS ⟨b :: r, 0⟩ 1 = (⟨r, 0⟩, b.toNat) := by
      unfold numS takeS
      rw [if_neg (by simp)]
      simp [val]
    rw [readS_cons]
    by_cases hb : b = 1
    · subst hb
      rw [if_pos rfl]
      have hs : schemaS ⟨1 :: r, 0⟩ = ⟨r, 0⟩ := by unfold schemaS; rw [hnum]; rfl
      rw [hs]
      unfold rowS8 countS
      by_cases hc : 12 < (numS ⟨r, 0⟩ 2).2
      · rw [if_pos hc, if_pos hc]
        have h7 : (failS (numS ⟨r, 0⟩ 2).1 7).e ≠ 0 := fun h => by
          obtain ⟨h1, _⟩ := failS_zero8 h
          cases h1
        show codeS (failS (numS ⟨r, 0⟩ 2).1 7, []) = _
        unfold codeS endS8
        rw [if_pos h7, if_pos h7]
      · rw [if_neg hc, if_neg hc]
        generalize usersS (numS ⟨r, 0⟩ 2).2 (numS ⟨r, 0⟩ 2).1 = q
        unfold codeS endS8
        by_cases he : q.1.e = 0
        · rw [if_neg (by simpa using he), hend q.1 he]
          by_cases ho : ofE (q.2.map bare7) = 0
          · rw [if_neg (by simpa using ho), ho]
            dsimp only
            rw [failS_z8]
            by_cases hl : 0 < q.1.bs.length
            · simp [hl, he]
            · simp [hl, he]
          · rw [if_pos ho]
            dsimp only
            have : (failS q.1 (ofE (q.2.map bare7))).e = ofE (q.2.map bare7) := by
              unfold failS
              rw [if_neg (by simp [ho, he])]
            rw [this, if_pos ho]
        · rw [if_pos he]
          dsimp only
          rw [failS_e8 he, if_pos he]
    · rw [if_neg hb]
      have hs : schemaS ⟨b :: r, 0⟩ = ⟨[], 6⟩ := by
        unfold schemaS
        rw [hnum]
        dsimp only
        rw [if_neg (show ¬ b.toNat = 1 from fun h => hb (UInt8.toNat_inj.1 h))]
        rfl
      rw [hs]
      exact hstop _ 6 rfl (by decide) rfl
end Go.Proofs.YtoeepbmbfambcaaGreatDoor
