/-
  The law's 'put' writes an item and tells the document's bytes of it.
  Conditions: the item is little.
-/
import Derived.Test.YtgipafdfmghogaaRef
import Derived.Test.YtgipafdfmghogaaFew
import Derived.Test.YtgipafdfmghogaaLawRows
import Derived.Deep.RegionHeld3
namespace Go.Proofs.Ytgipafdfmghogaa
open Go.RowKit

theorem le_mod (k : Nat) : ∀ x, le (x % 256 ^ k) k = le x k := by
  induction k with
  | zero => intro x; rfl
  | succ k ih =>
    intro x
    rw [le_cons, le_cons]
    have h1 : UInt8.ofNat (x % 256 ^ (k + 1)) = UInt8.ofNat x := by
      apply UInt8.toNat_inj.1
      simp only [UInt8.toNat_ofNat']
      rw [Nat.pow_succ', Nat.mod_mul_right_mod]
    have h2 : x % 256 ^ (k + 1) / 256 = x / 256 % 256 ^ k := by
      rw [Nat.pow_succ', Nat.mod_mul_right_div_self]
    rw [h1, h2, ih]

/-- The bytes of an item of kind r. -/
def itB (r x : Nat) (is : Bool) (s : ByteArray) (ls : List ByteArray) : List UInt8 :=
  match r with
  | 0 => le x 1
  | 1 => le x 2
  | 2 => le x 4
  | 3 => le x 8
  | 4 => le is.toNat 1
  | 5 => textB s
  | 6 => rowB ls
  | 7 => s.data.toList
  | _ => []

/-- Both are told: the Writer, and the document's bytes. -/
def Put (w : World) (B : Nat) (v : Value) (bs l : List UInt8) (e : Ending) (w' : World) : Prop :=
  e = .returned (.tuple #[.pointer (some ⟨B, 0, none⟩), .string ⟨l.toArray⟩]) ∧ Went w B v (bs ++ l) w'

/-- Behind the item's box. -/
theorem Went.boxed {w w1 w2 : World} {B : Nat} {v : Value} {bs : List UInt8} (ht : Turns (fun _ => False) w w1) (h : Went w1 B v bs w2) : Went w B v bs w2 :=
  Went.next (.inl rfl) (ht.mono (fun _ _ f => f.elim)) h
theorem Went.then_still {w w1 w2 : World} {B : Nat} {v : Value} {bs : List UInt8} (h : Went w B v bs w1) (ht : Turns (fun _ => False) w1 w2) : Went w B v bs w2 := by
  obtain ⟨v', h1, h2, h3⟩ := h
  exact ⟨v', h1.still ht, h2, h3.next ht (fun _ _ f => f.elim)⟩

theorem Turns.undrew {S : Nat → Prop} {w w' : World} (h : Turns S w.drew w') : Turns S w w' := ⟨h.os, h.tape, h.output, h.size, h.block⟩
theorem Went.turned {w w' : World} {B : Nat} {v : Value} {bs : List UInt8} (h : Went w.drew B v bs w') : Turns (fun i => i = B ∨ v.ownBlock = some i) w w' := by
  obtain ⟨_, _, _, t⟩ := h
  exact t.undrew

theorem Went.turns {w w' : World} {B : Nat} {v : Value} {bs : List UInt8} (h : Went w B v bs w') : Turns (fun i => i = B ∨ v.ownBlock = some i) w w' := by
  obtain ⟨_, _, _, t⟩ := h
  exact t

/-- An item's box. -/
abbrev boxI (w : World) (kd x : Nat) (is : Bool) (s : ByteArray) (la : Option Addr) (n lc : Nat) (mo lo ee : Int) : World :=
  w.alloc (.cells #[.int .u8 kd, .int .u64 x, .bool is, .string s, .slice la n lc, .int .i64 mo, .int .i64 lo, .int .i64 ee] 27)

set_option maxHeartbeats 1000000 in
theorem put0 (B : Nat) (v : Value) (bs : List UInt8) (kd x : Nat) (is : Bool) (s : ByteArray) (la : Option Addr) (n lc : Nat) (mo lo ee : Int) (w : World) (h : Wtr w B v bs) (hroom : bs.length + 8 ≤ 1099511627776)
    (hr : kd % 9 = 0) (hx : x < 18446744073709551616) :
    Calls Try.prog 14 #[.pointer (some ⟨B, 0, none⟩), .agg #[.int .u8 kd, .int .u64 x, .bool is, .string s, .slice la n lc, .int .i64 mo, .int .i64 lo, .int .i64 ee]] w (Put w B v bs (le x 1)) := by
  have hkr : (kd : Int) % 9 = 0 := by omega
  have ht : Turns (fun _ => False) w (boxI w kd x is s la n lc mo lo ee) := (Turns.refl _ _).alloc _
  have HT := Lib.hid ht
  have HA : Hid (Calls Try.prog 20 #[.pointer (some ⟨B, 0, none⟩), .int .u8 ((x % 256 : Nat) : Int)] (boxI w kd x is s la n lc mo lo ee).drew (Wrote (boxI w kd x is s la n lc mo lo ee).drew B v (bs ++ le x 1))) := by
    have := byte_calls B v bs (x % 256) _ (h.still (w' := (boxI w kd x is s la n lc mo lo ee).drew) ht.drew) (by omega) hroom
    rwa [show x % 256 = x % 256 ^ 1 from rfl, le_mod 1 x] at this
  have HCL : Hid (∀ W, Turns (fun i => i = B ∨ v.ownBlock = some i) (boxI w kd x is s la n lc mo lo ee) W → W.cell? ⟨w.heap.size, 1, none⟩ = some (.int .u64 x)) := fun W hW => by
    rw [hW.cell (p := ⟨w.heap.size, 1, none⟩) (by simp) ?_, cell_of_row _ w.heap.size 1 _ _ (0, 0) (heap_alloc_new w _)]
    · rfl
    · rintro (he | he)
      · have := h.lt; simp at he; omega
      · have := (h.2.lt _ he).2; simp at this
  have HX := Lib.hid hx
  have hcv : IntKind.u8.wrap (x : Int) = ((x % 256 : Nat) : Int) := by rw [IntKind.wrap_u8']; omega
  clear hx
  have hBase : Turns (fun i => i = B ∨ v.ownBlock = some i) (boxI w kd x is s la n lc mo lo ee) (boxI w kd x is s la n lc mo lo ee).drew := (Turns.refl _ _).drew
  clear ht h hr
  go_enter Try.func14, Try.ntmps14
  go_wp2_with fail
  go_region_held3 (fun W => W.cell? ⟨w.heap.size, 1, none⟩ = some (.int .u64 x)) (exact HCL.out _ hBase) (first
    | (go_at_call 20; refine HA.out.mono ?_; rintro e wn ⟨rfl, hwn⟩; have hBase := hwn.turned; have HW := Lib.hid hwn; clear hwn)
    | (go_at_call 35; refine (num_at _ _ x 1 _ (by rfl) (by simp) HX.out (by omega)).mono ?_; rintro e wm ⟨rfl, htm⟩; have hBase := hBase.next htm (fun _ _ f => f.elim); have HM := Lib.hid htm; clear htm))
  go_wp2
  go_ret2
  exact ⟨rfl, (Went.boxed HT.out.drew HW.out).then_still HM.out⟩
set_option maxHeartbeats 1000000 in
theorem put1 (B : Nat) (v : Value) (bs : List UInt8) (kd x : Nat) (is : Bool) (s : ByteArray) (la : Option Addr) (n lc : Nat) (mo lo ee : Int) (w : World) (h : Wtr w B v bs) (hroom : bs.length + 8 ≤ 1099511627776)
    (hr : kd % 9 = 1) (hx : x < 18446744073709551616) :
    Calls Try.prog 14 #[.pointer (some ⟨B, 0, none⟩), .agg #[.int .u8 kd, .int .u64 x, .bool is, .string s, .slice la n lc, .int .i64 mo, .int .i64 lo, .int .i64 ee]] w (Put w B v bs (le x 2)) := by
  have hkr : (kd : Int) % 9 = 1 := by omega
  have ht : Turns (fun _ => False) w (boxI w kd x is s la n lc mo lo ee) := (Turns.refl _ _).alloc _
  have HT := Lib.hid ht
  have HA : Hid (Calls Try.prog 21 #[.pointer (some ⟨B, 0, none⟩), .int .u16 ((x % 65536 : Nat) : Int)] (boxI w kd x is s la n lc mo lo ee).drew (Wrote (boxI w kd x is s la n lc mo lo ee).drew B v (bs ++ le x 2))) := by
    have := two_calls B v bs (x % 65536) _ (h.still (w' := (boxI w kd x is s la n lc mo lo ee).drew) ht.drew) (by omega) hroom
    rwa [show x % 65536 = x % 256 ^ 2 from rfl, le_mod 2 x] at this
  have HCL : Hid (∀ W, Turns (fun i => i = B ∨ v.ownBlock = some i) (boxI w kd x is s la n lc mo lo ee) W → W.cell? ⟨w.heap.size, 1, none⟩ = some (.int .u64 x)) := fun W hW => by
    rw [hW.cell (p := ⟨w.heap.size, 1, none⟩) (by simp) ?_, cell_of_row _ w.heap.size 1 _ _ (0, 0) (heap_alloc_new w _)]
    · rfl
    · rintro (he | he)
      · have := h.lt; simp at he; omega
      · have := (h.2.lt _ he).2; simp at this
  have HX := Lib.hid hx
  have hcv : IntKind.u16.wrap (x : Int) = ((x % 65536 : Nat) : Int) := by rw [IntKind.wrap_u16]; omega
  clear hx
  have hBase : Turns (fun i => i = B ∨ v.ownBlock = some i) (boxI w kd x is s la n lc mo lo ee) (boxI w kd x is s la n lc mo lo ee).drew := (Turns.refl _ _).drew
  clear ht h hr
  go_enter Try.func14, Try.ntmps14
  go_wp2_with fail
  go_region_held3 (fun W => W.cell? ⟨w.heap.size, 1, none⟩ = some (.int .u64 x)) (exact HCL.out _ hBase) (first
    | (go_at_call 21; refine HA.out.mono ?_; rintro e wn ⟨rfl, hwn⟩; have hBase := hwn.turned; have HW := Lib.hid hwn; clear hwn)
    | (go_at_call 35; refine (num_at _ _ x 2 _ (by rfl) (by simp) HX.out (by omega)).mono ?_; rintro e wm ⟨rfl, htm⟩; have hBase := hBase.next htm (fun _ _ f => f.elim); have HM := Lib.hid htm; clear htm))
  go_wp2
  go_ret2
  exact ⟨rfl, (Went.boxed HT.out.drew HW.out).then_still HM.out⟩
set_option maxHeartbeats 1000000 in
theorem put2 (B : Nat) (v : Value) (bs : List UInt8) (kd x : Nat) (is : Bool) (s : ByteArray) (la : Option Addr) (n lc : Nat) (mo lo ee : Int) (w : World) (h : Wtr w B v bs) (hroom : bs.length + 8 ≤ 1099511627776)
    (hr : kd % 9 = 2) (hx : x < 18446744073709551616) :
    Calls Try.prog 14 #[.pointer (some ⟨B, 0, none⟩), .agg #[.int .u8 kd, .int .u64 x, .bool is, .string s, .slice la n lc, .int .i64 mo, .int .i64 lo, .int .i64 ee]] w (Put w B v bs (le x 4)) := by
  have hkr : (kd : Int) % 9 = 2 := by omega
  have ht : Turns (fun _ => False) w (boxI w kd x is s la n lc mo lo ee) := (Turns.refl _ _).alloc _
  have HT := Lib.hid ht
  have HA : Hid (Calls Try.prog 22 #[.pointer (some ⟨B, 0, none⟩), .int .u32 ((x % 4294967296 : Nat) : Int)] (boxI w kd x is s la n lc mo lo ee).drew (Wrote (boxI w kd x is s la n lc mo lo ee).drew B v (bs ++ le x 4))) := by
    have := four_calls B v bs (x % 4294967296) _ (h.still (w' := (boxI w kd x is s la n lc mo lo ee).drew) ht.drew) (by omega) hroom
    rwa [show x % 4294967296 = x % 256 ^ 4 from rfl, le_mod 4 x] at this
  have HCL : Hid (∀ W, Turns (fun i => i = B ∨ v.ownBlock = some i) (boxI w kd x is s la n lc mo lo ee) W → W.cell? ⟨w.heap.size, 1, none⟩ = some (.int .u64 x)) := fun W hW => by
    rw [hW.cell (p := ⟨w.heap.size, 1, none⟩) (by simp) ?_, cell_of_row _ w.heap.size 1 _ _ (0, 0) (heap_alloc_new w _)]
    · rfl
    · rintro (he | he)
      · have := h.lt; simp at he; omega
      · have := (h.2.lt _ he).2; simp at this
  have HX := Lib.hid hx
  have hcv : IntKind.u32.wrap (x : Int) = ((x % 4294967296 : Nat) : Int) := by rw [IntKind.wrap_u32']; omega
  clear hx
  have hBase : Turns (fun i => i = B ∨ v.ownBlock = some i) (boxI w kd x is s la n lc mo lo ee) (boxI w kd x is s la n lc mo lo ee).drew := (Turns.refl _ _).drew
  clear ht h hr
  go_enter Try.func14, Try.ntmps14
  go_wp2_with fail
  go_region_held3 (fun W => W.cell? ⟨w.heap.size, 1, none⟩ = some (.int .u64 x)) (exact HCL.out _ hBase) (first
    | (go_at_call 22; refine HA.out.mono ?_; rintro e wn ⟨rfl, hwn⟩; have hBase := hwn.turned; have HW := Lib.hid hwn; clear hwn)
    | (go_at_call 35; refine (num_at _ _ x 4 _ (by rfl) (by simp) HX.out (by omega)).mono ?_; rintro e wm ⟨rfl, htm⟩; have hBase := hBase.next htm (fun _ _ f => f.elim); have HM := Lib.hid htm; clear htm))
  go_wp2
  go_ret2
  exact ⟨rfl, (Went.boxed HT.out.drew HW.out).then_still HM.out⟩
set_option maxHeartbeats 1000000 in
theorem put3 (B : Nat) (v : Value) (bs : List UInt8) (kd x : Nat) (is : Bool) (s : ByteArray) (la : Option Addr) (n lc : Nat) (mo lo ee : Int) (w : World) (h : Wtr w B v bs) (hroom : bs.length + 8 ≤ 1099511627776)
    (hr : kd % 9 = 3) (hx : x < 18446744073709551616) :
    Calls Try.prog 14 #[.pointer (some ⟨B, 0, none⟩), .agg #[.int .u8 kd, .int .u64 x, .bool is, .string s, .slice la n lc, .int .i64 mo, .int .i64 lo, .int .i64 ee]] w (Put w B v bs (le x 8)) := by
  have hkr : (kd : Int) % 9 = 3 := by omega
  have ht : Turns (fun _ => False) w (boxI w kd x is s la n lc mo lo ee) := (Turns.refl _ _).alloc _
  have HT := Lib.hid ht
  have HA : Hid (Calls Try.prog 23 #[.pointer (some ⟨B, 0, none⟩), .int .u64 x] (boxI w kd x is s la n lc mo lo ee).drew (Wrote (boxI w kd x is s la n lc mo lo ee).drew B v (bs ++ le x 8))) := by
    exact eight_calls B v bs x _ (h.still (w' := (boxI w kd x is s la n lc mo lo ee).drew) ht.drew) hx hroom
  have HCL : Hid (∀ W, Turns (fun i => i = B ∨ v.ownBlock = some i) (boxI w kd x is s la n lc mo lo ee) W → W.cell? ⟨w.heap.size, 1, none⟩ = some (.int .u64 x)) := fun W hW => by
    rw [hW.cell (p := ⟨w.heap.size, 1, none⟩) (by simp) ?_, cell_of_row _ w.heap.size 1 _ _ (0, 0) (heap_alloc_new w _)]
    · rfl
    · rintro (he | he)
      · have := h.lt; simp at he; omega
      · have := (h.2.lt _ he).2; simp at this
  have HX := Lib.hid hx
  clear hx
  have hBase : Turns (fun i => i = B ∨ v.ownBlock = some i) (boxI w kd x is s la n lc mo lo ee) (boxI w kd x is s la n lc mo lo ee).drew := (Turns.refl _ _).drew
  clear ht h hr
  go_enter Try.func14, Try.ntmps14
  go_wp2_with fail
  go_region_held3 (fun W => W.cell? ⟨w.heap.size, 1, none⟩ = some (.int .u64 x)) (exact HCL.out _ hBase) (first
    | (go_at_call 23; refine HA.out.mono ?_; rintro e wn ⟨rfl, hwn⟩; have hBase := hwn.turned; have HW := Lib.hid hwn; clear hwn)
    | (go_at_call 35; refine (num_at _ _ x 8 _ (by rfl) (by simp) HX.out (by omega)).mono ?_; rintro e wm ⟨rfl, htm⟩; have hBase := hBase.next htm (fun _ _ f => f.elim); have HM := Lib.hid htm; clear htm))
  go_wp2
  go_ret2
  exact ⟨rfl, (Went.boxed HT.out.drew HW.out).then_still HM.out⟩
set_option maxHeartbeats 1000000 in
theorem put4 (B : Nat) (v : Value) (bs : List UInt8) (kd x : Nat) (is : Bool) (s : ByteArray) (la : Option Addr) (n lc : Nat) (mo lo ee : Int) (w : World) (h : Wtr w B v bs) (hroom : bs.length + 8 ≤ 1099511627776)
    (hr : kd % 9 = 4)  :
    Calls Try.prog 14 #[.pointer (some ⟨B, 0, none⟩), .agg #[.int .u8 kd, .int .u64 x, .bool is, .string s, .slice la n lc, .int .i64 mo, .int .i64 lo, .int .i64 ee]] w (Put w B v bs (le is.toNat 1)) := by
  have hkr : (kd : Int) % 9 = 4 := by omega
  have ht : Turns (fun _ => False) w (boxI w kd x is s la n lc mo lo ee) := (Turns.refl _ _).alloc _
  have HT := Lib.hid ht
  have HA : Hid (Calls Try.prog 24 #[.pointer (some ⟨B, 0, none⟩), .bool is] (boxI w kd x is s la n lc mo lo ee).drew (Wrote (boxI w kd x is s la n lc mo lo ee).drew B v (bs ++ le is.toNat 1))) := by
    exact truth_calls B v bs is _ (h.still (w' := (boxI w kd x is s la n lc mo lo ee).drew) ht.drew) hroom
  have HCL : Hid (∀ W, Turns (fun i => i = B ∨ v.ownBlock = some i) (boxI w kd x is s la n lc mo lo ee) W → W.cell? ⟨w.heap.size, 2, none⟩ = some (.bool is)) := fun W hW => by
    rw [hW.cell (p := ⟨w.heap.size, 2, none⟩) (by simp) ?_, cell_of_row _ w.heap.size 2 _ _ (0, 0) (heap_alloc_new w _)]
    · rfl
    · rintro (he | he)
      · have := h.lt; simp at he; omega
      · have := (h.2.lt _ he).2; simp at this
  have hBase : Turns (fun i => i = B ∨ v.ownBlock = some i) (boxI w kd x is s la n lc mo lo ee) (boxI w kd x is s la n lc mo lo ee).drew := (Turns.refl _ _).drew
  clear ht h hr
  go_enter Try.func14, Try.ntmps14
  go_wp2_with fail
  go_region_held3 (fun W => W.cell? ⟨w.heap.size, 2, none⟩ = some (.bool is)) (exact HCL.out _ hBase) (first
    | (go_at_call 24; refine HA.out.mono ?_; rintro e wn ⟨rfl, hwn⟩; have hBase := hwn.turned; have HW := Lib.hid hwn; clear hwn)
    | (go_at_call 36; refine (reftruth_calls is _).mono ?_; rintro e wm ⟨rfl, htm⟩; have hBase := hBase.next htm (fun _ _ f => f.elim); have HM := Lib.hid htm; clear htm))
  go_wp2
  go_ret2
  exact ⟨rfl, (Went.boxed HT.out.drew HW.out).then_still HM.out⟩
set_option maxHeartbeats 1000000 in
theorem put5 (B : Nat) (v : Value) (bs : List UInt8) (kd x : Nat) (is : Bool) (s : ByteArray) (la : Option Addr) (n lc : Nat) (mo lo ee : Int) (w : World) (h : Wtr w B v bs) (hroom : bs.length + 65545 ≤ 1099511627776)
    (hr : kd % 9 = 5) (hs : s.size ≤ 65535) :
    Calls Try.prog 14 #[.pointer (some ⟨B, 0, none⟩), .agg #[.int .u8 kd, .int .u64 x, .bool is, .string s, .slice la n lc, .int .i64 mo, .int .i64 lo, .int .i64 ee]] w (Put w B v bs (textB s)) := by
  have hkr : (kd : Int) % 9 = 5 := by omega
  have ht : Turns (fun _ => False) w (boxI w kd x is s la n lc mo lo ee) := (Turns.refl _ _).alloc _
  have HT := Lib.hid ht
  have HA : Hid (Calls Try.prog 13 #[.pointer (some ⟨B, 0, none⟩), .string s] (boxI w kd x is s la n lc mo lo ee).drew (Wrote (boxI w kd x is s la n lc mo lo ee).drew B v (bs ++ textB s))) := by
    exact text_calls B v bs s _ (h.still (w' := (boxI w kd x is s la n lc mo lo ee).drew) ht.drew) hs hroom
  have HCL : Hid (∀ W, Turns (fun i => i = B ∨ v.ownBlock = some i) (boxI w kd x is s la n lc mo lo ee) W → W.cell? ⟨w.heap.size, 3, none⟩ = some (.string s)) := fun W hW => by
    rw [hW.cell (p := ⟨w.heap.size, 3, none⟩) (by simp) ?_, cell_of_row _ w.heap.size 3 _ _ (0, 0) (heap_alloc_new w _)]
    · rfl
    · rintro (he | he)
      · have := h.lt; simp at he; omega
      · have := (h.2.lt _ he).2; simp at this
  have hBase : Turns (fun i => i = B ∨ v.ownBlock = some i) (boxI w kd x is s la n lc mo lo ee) (boxI w kd x is s la n lc mo lo ee).drew := (Turns.refl _ _).drew
  clear ht h hr
  go_enter Try.func14, Try.ntmps14
  go_wp2_with fail
  go_region_held3 (fun W => W.cell? ⟨w.heap.size, 3, none⟩ = some (.string s)) (exact HCL.out _ hBase) (first
    | (go_at_call 13; refine HA.out.mono ?_; rintro e wn ⟨rfl, hwn⟩; have hBase := hwn.turned; have HW := Lib.hid hwn; clear hwn)
    | (go_at_call 37; refine (reftext_calls s _ hs).mono ?_; rintro e wm ⟨rfl, htm⟩; have hBase := hBase.next htm (fun _ _ f => f.elim); have HM := Lib.hid htm; clear htm))
  go_wp2
  go_ret2
  exact ⟨rfl, (Went.boxed HT.out.drew HW.out).then_still HM.out⟩
set_option maxHeartbeats 1000000 in
theorem put6 (B : Nat) (v : Value) (bs : List UInt8) (kd x : Nat) (is : Bool) (s : ByteArray) (la : Option Addr) (lc : Nat) (ls : List ByteArray) (mo lo ee : Int) (w : World) (h : Wtr w B v bs) (hroom : bs.length ≤ 549755813888)
    (hr : kd % 9 = 6) (hlc : ls.length ≤ lc) (hlm : lc ≤ 9223372036854775807) (hl : ls.length ≤ 65535) (hrs : RdS w la ls) (hdj : ls ≠ [] → ∀ a, la = some a → a.block ≠ B ∧ v.ownBlock ≠ some a.block) (hs : ∀ t ∈ ls, t.size ≤ 65535) :
    Calls Try.prog 14 #[.pointer (some ⟨B, 0, none⟩), .agg #[.int .u8 kd, .int .u64 x, .bool is, .string s, .slice la ls.length lc, .int .i64 mo, .int .i64 lo, .int .i64 ee]] w (Put w B v bs (rowB ls)) := by
  have hkr : (kd : Int) % 9 = 6 := by omega
  have ht : Turns (fun _ => False) w (boxI w kd x is s la ls.length lc mo lo ee) := (Turns.refl _ _).alloc _
  have HT := Lib.hid ht
  have HA : Hid (Calls Try.prog 10 #[.pointer (some ⟨B, 0, none⟩), .slice la ls.length lc] (boxI w kd x is s la ls.length lc mo lo ee).drew (Wrote (boxI w kd x is s la ls.length lc mo lo ee).drew B v (bs ++ rowB ls))) := by
    refine row_calls B v bs la ls.length lc ls _ (h.still (w' := (boxI w kd x is s la ls.length lc mo lo ee).drew) ht.drew) hlc hlm (by omega) (hrs.still ht.drew) ?_ hs hroom
    intro hne a ha
    rintro (he | he)
    · exact (hdj hne a ha).1 he
    · exact (hdj hne a ha).2 he
  have HCL : Hid (∀ W, Turns (fun i => i = B ∨ v.ownBlock = some i) (boxI w kd x is s la ls.length lc mo lo ee) W → W.cell? ⟨w.heap.size, 4, none⟩ = some (.slice la ls.length lc)) := fun W hW => by
    rw [hW.cell (p := ⟨w.heap.size, 4, none⟩) (by simp) ?_, cell_of_row _ w.heap.size 4 _ _ (0, 0) (heap_alloc_new w _)]
    · rfl
    · rintro (he | he)
      · have := h.lt; simp at he; omega
      · have := (h.2.lt _ he).2; simp at this
  have HRS : Hid (∀ W, Turns (fun i => i = B ∨ v.ownBlock = some i) (boxI w kd x is s la ls.length lc mo lo ee) W → RdS W la ls) := fun W hW => by
    refine (hrs.still ht).turns hW (fun hne a ha => ?_)
    rintro (he | he)
    · exact (hdj hne a ha).1 he
    · exact (hdj hne a ha).2 he
  have HS := Lib.hid hs
  clear hs hrs hdj
  have hBase : Turns (fun i => i = B ∨ v.ownBlock = some i) (boxI w kd x is s la ls.length lc mo lo ee) (boxI w kd x is s la ls.length lc mo lo ee).drew := (Turns.refl _ _).drew
  clear ht h hr
  go_enter Try.func14, Try.ntmps14
  go_wp2_with fail
  go_region_held3 (fun W => W.cell? ⟨w.heap.size, 4, none⟩ = some (.slice la ls.length lc)) (exact HCL.out _ hBase) (first
    | (go_at_call 10; refine HA.out.mono ?_; rintro e wn ⟨rfl, hwn⟩; have hBase := hwn.turned; have HW := Lib.hid hwn; clear hwn)
    | (go_at_call 38; refine (refrow_calls la lc ls _ (HRS.out _ hBase) hl HS.out).mono ?_; rintro e wm ⟨rfl, htm⟩; have hBase := hBase.next htm (fun _ _ f => f.elim); have HM := Lib.hid htm; clear htm))
  go_wp2
  go_ret2
  exact ⟨rfl, (Went.boxed HT.out.drew HW.out).then_still HM.out⟩
/-- '[]byte(s)': new memory that reads as the text's bytes. -/
theorem conv_bytes (w : World) (s : ByteArray) : ∃ A c w1, (convert 9 30 (.string s)).run Try.prog w = .ok (.slice A s.size c) w1 ∧ Rd w1 (.slice A s.size c) s.data.toList ∧ Turns (fun _ => False) w w1 :=
  ⟨_, _, _, run_bytes_of_string (P := Try.prog) w 9 30 5 s Try.underlying9 Try.underlying30 Try.underlying5, rd_bytes w.drew s _ _ _, (Turns.refl _ w).drew.alloc _⟩

set_option maxHeartbeats 1000000 in
theorem put7 (B : Nat) (v : Value) (bs : List UInt8) (kd x : Nat) (is : Bool) (s : ByteArray) (la : Option Addr) (n lc : Nat) (mo lo ee : Int) (w : World) (h : Wtr w B v bs) (hroom : bs.length + s.size ≤ 1099511627776)
    (hr : kd % 9 = 7) :
    Calls Try.prog 14 #[.pointer (some ⟨B, 0, none⟩), .agg #[.int .u8 kd, .int .u64 x, .bool is, .string s, .slice la n lc, .int .i64 mo, .int .i64 lo, .int .i64 ee]] w (Put w B v bs s.data.toList) := by
  have hkr : (kd : Int) % 9 = 7 := by omega
  have ht : Turns (fun _ => False) w (boxI w kd x is s la n lc mo lo ee) := (Turns.refl _ _).alloc _
  have HT := Lib.hid ht
  have HCL : Hid (∀ W, Turns (fun i => i = B ∨ v.ownBlock = some i) (boxI w kd x is s la n lc mo lo ee) W → W.cell? ⟨w.heap.size, 3, none⟩ = some (.string s)) := fun W hW => by
    rw [hW.cell (p := ⟨w.heap.size, 3, none⟩) (by simp) ?_, cell_of_row _ w.heap.size 3 _ _ (0, 0) (heap_alloc_new w _)]
    · rfl
    · rintro (he | he)
      · have := h.lt; simp at he; omega
      · have := (h.2.lt _ he).2; simp at this
  obtain ⟨A, c, w1, hcv, hrd, ht1⟩ := conv_bytes (boxI w kd x is s la n lc mo lo ee).drew s
  have hx1 : Turns (fun _ => False) w w1 := ht.drew.next ht1 (fun _ _ f => f)
  have HR : Hid (Calls Try.prog 25 #[.pointer (some ⟨B, 0, none⟩), .slice A s.size c] w1 (Wrote w1 B v (bs ++ s.data.toList))) := raw_calls B v _ bs _ w1 (h.still hx1) hrd (by rw [bytes_length]; exact hroom)
  have hc1 : w1.cell? ⟨w.heap.size, 3, none⟩ = some (.string s) := HCL.out w1 (ht1.undrew.mono (fun _ _ f => f.elim))
  have HX1 := Lib.hid hx1
  have HT1 := Lib.hid ht1
  clear ht hr hrd ht1 hx1 h
  go_enter Try.func14, Try.ntmps14
  go_wp2_with fail
  go_region_with (go_at_call 25; refine HR.out.mono ?_; rintro e wn ⟨rfl, hwn⟩; have HW := Lib.hid hwn; have hcn := HCL.out wn ((HT1.out.undrew.mono (fun _ _ f => f.elim)).next (Went.turns hwn) (fun _ _ h => h)); clear hwn)
  all_goals
    go_wp2
    go_ret2
    exact ⟨rfl, Went.boxed HX1.out HW.out⟩

theorem put8 (B : Nat) (v : Value) (bs : List UInt8) (kd x : Nat) (is : Bool) (s : ByteArray) (la : Option Addr) (n lc : Nat) (mo lo ee : Int) (w : World) (h : Wtr w B v bs)
    (hr : kd % 9 = 8) :
    Calls Try.prog 14 #[.pointer (some ⟨B, 0, none⟩), .agg #[.int .u8 kd, .int .u64 x, .bool is, .string s, .slice la n lc, .int .i64 mo, .int .i64 lo, .int .i64 ee]] w (Put w B v bs []) := by
  have hkr : (kd : Int) % 9 = 8 := by omega
  have ht : Turns (fun _ => False) w (boxI w kd x is s la n lc mo lo ee) := (Turns.refl _ _).alloc _
  have HF : Hid (Went w B v (bs ++ []) (boxI w kd x is s la n lc mo lo ee)) := by rw [List.append_nil]; exact (Went.start h).then_still ht
  clear ht hr h
  go_enter Try.func14, Try.ntmps14
  go_wp2
  go_ret2
  exact ⟨rfl, HF.out⟩
end Go.Proofs.Ytgipafdfmghogaa
