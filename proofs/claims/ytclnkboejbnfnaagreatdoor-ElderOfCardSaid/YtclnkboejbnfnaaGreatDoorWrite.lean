/-
  What the Writer's methods do, call by call: bytes are put behind those that were written; nothing else turns.
  Conditions: all that is written stays below 2^40 bytes.
-/
import Derived.Test.YtclnkboejbnfnaaGreatDoorProg
import Derived.Test.YtclnkboejbnfnaaGreatDoorWords
import Derived.WalkSpells
import Derived.WalkLawsBesides
import Derived.Lib.Hide
import Derived.KernelRfl
namespace Go.Proofs.YtclnkboejbnfnaaGreatDoor
open Go.RowKit

theorem infoByte : (Tryz.prog.info? 5).map (fun i => (i.zero, i.size, i.bytes)) = some (some (.int .u8 0), 1, 1) := by kernel_rfl

/-- The lowest so many bytes of a number, the lowest first. -/
def le (x : Nat) : Nat → List UInt8
  | 0 => []
  | k + 1 => le x k ++ [UInt8.ofNat (x / 256 ^ k)]
theorem le_length (x k : Nat) : (le x k).length = k := by
  induction k with
  | zero => rfl
  | succ k ih => simp [le, ih]

/-- A Writer at block B: its field is v, which owns the bytes bs. -/
def Wtr (w : World) (B : Nat) (v : Value) (bs : List UInt8) : Prop :=
  w.heap[B]? = some (.cells #[v] 93 (0, 0)) ∧ w.ownsRow 0 5 1 v bs.length (cellsOf bs)

/-- What has become of a Writer at block B, whose field was v, between w and w'. -/
def Went (w : World) (B : Nat) (v : Value) (bs : List UInt8) (w' : World) : Prop :=
  ∃ v', Wtr w' B v' bs ∧ (v'.ownBlock = v.ownBlock ∨ ∃ k, v'.ownBlock = some k ∧ w.heap.size ≤ k) ∧ Turns (fun i => i = B ∨ v.ownBlock = some i) w w'

/-- A call that writes: it tells the Writer. -/
def Wrote (w : World) (B : Nat) (v : Value) (bs : List UInt8) (e : Ending) (w' : World) : Prop :=
  e = .returned (.pointer (some ⟨B, 0, none⟩)) ∧ Went w B v bs w'

theorem Wtr.ne {w : World} {B : Nat} {v : Value} {bs : List UInt8} (h : Wtr w B v bs) : v.ownBlock ≠ some B := by
  rcases h.2.2 with ⟨rfl, _⟩ | ⟨g, cap, cur, rfl, _, hg, _⟩
  · simp [Value.ownBlock]
  · intro he
    have : g = B := by simpa [Value.ownBlock] using he
    subst this
    have := h.1.symm.trans hg
    simp at this
theorem Wtr.lt {w : World} {B : Nat} {v : Value} {bs : List UInt8} (h : Wtr w B v bs) : B < w.heap.size := (Array.getElem?_eq_some_iff.1 h.1).1
theorem Wtr.cell {w : World} {B : Nat} {v : Value} {bs : List UInt8} (h : Wtr w B v bs) : w.cell? ⟨B, 0, none⟩ = some v := by
  rw [cell_of_row w B 0 #[v] _ (0, 0) h.1]; rfl
theorem Wtr.free {w : World} {B : Nat} {v : Value} {bs : List UInt8} (h : Wtr w B v bs) : w.frozen? ⟨B, 0, none⟩ = false := by
  simp [World.frozen?, h.1]

theorem Went.start {w : World} {B : Nat} {v : Value} {bs : List UInt8} (h : Wtr w B v bs) : Went w B v bs w := ⟨v, h, .inl rfl, Turns.refl _ _⟩
theorem Went.next {w w1 w2 : World} {B : Nat} {v v1 : Value} {bs2 : List UInt8} (h0 : v1.ownBlock = v.ownBlock ∨ ∃ k, v1.ownBlock = some k ∧ w.heap.size ≤ k)
    (ht : Turns (fun i => i = B ∨ v.ownBlock = some i) w w1) (h : Went w1 B v1 bs2 w2) : Went w B v bs2 w2 := by
  obtain ⟨v2, hw2, h2, t2⟩ := h
  refine ⟨v2, hw2, ?_, ht.next t2 ?_⟩
  · rcases h2 with h2 | ⟨k, hk, hkl⟩
    · rcases h0 with h0 | ⟨k, hk, hkl⟩
      · exact .inl (h2.trans h0)
      · exact .inr ⟨k, h2.trans hk, hkl⟩
    · exact .inr ⟨k, hk, Nat.le_trans ht.size hkl⟩
  · intro i hi hs
    rcases hs with hs | hs
    · exact .inl hs
    · rcases h0 with h0 | ⟨k, hk, hkl⟩
      · exact .inr (h0 ▸ hs)
      · rw [hk] at hs
        injection hs with hs
        omega
theorem Wtr.after {w w1 w2 : World} {B : Nat} {v : Value} {bs : List UInt8} (h : Wtr w B v bs) (ht : Turns (fun _ => False) w w1) (hg : w1.grownBy w2 v.ownBlock) :
    w2.cell? ⟨B, 0, none⟩ = some v ∧ w2.frozen? ⟨B, 0, none⟩ = false := by
  have hB : w2.heap[B]? = some (.cells #[v] 93 (0, 0)) :=
    (hg.block B (Nat.lt_of_lt_of_le h.lt ht.size) (fun e => h.ne e.symm)).trans ((ht.block B h.lt (fun f => f)).trans h.1)
  exact ⟨by rw [cell_of_row w2 B 0 #[v] _ (0, 0) hB]; rfl, by simp [World.frozen?, hB]⟩
/-- The field is stored behind an append. -/
theorem Went.put {w w1 w2 : World} {B : Nat} {v v' : Value} {bs news : List UInt8} {n : Nat} (h : Wtr w B v bs) (ht : Turns (fun _ => False) w w1)
    (hn : n = (bs ++ news).length) (ho : w2.ownsRow 0 5 1 v' n (cellsOf bs ++ cellsOf news)) (hg : w1.grownBy w2 v.ownBlock)
    (ha : v'.ownBlock = v.ownBlock ∨ v'.ownBlock = some w1.heap.size) : Went w B v (bs ++ news) (w2.setCell ⟨B, 0, none⟩ v') := by
  subst hn
  have hB : w2.heap[B]? = some (.cells #[v] 93 (0, 0)) :=
    (hg.block B (Nat.lt_of_lt_of_le h.lt ht.size) (fun e => h.ne e.symm)).trans ((ht.block B h.lt (fun f => f)).trans h.1)
  have hne : v'.ownBlock ≠ some B := by
    rcases ha with ha | ha
    · rw [ha]; exact h.ne
    · rw [ha]; intro e; injection e with e; have := h.lt; have := ht.size; omega
  have ht2 : Turns (fun i => i = B ∨ v.ownBlock = some i) w w2 := (ht.mono (fun _ _ f => f.elim)).grown hg (fun k hk _ => .inr hk)
  refine ⟨v', ⟨?_, ?_⟩, ?_, ht2.setCell (fun _ => .inl rfl) v'⟩
  · simp [World.setCell, Array.getElem?_modify, hB]
  · rw [cellsOf_append]
    refine ⟨by simpa using ho.1, ?_⟩
    rcases ho.2 with h0 | ⟨g, cap, cur, rfl, hb, hgg, rest⟩
    · exact .inl h0
    · refine .inr ⟨g, cap, cur, rfl, hb, ?_, rest⟩
      rw [Below.heap_setCell _ _ _ _ (fun e => hne (by rw [show g = B from e]; rfl))]
      exact hgg
  · rcases ha with ha | ha
    · exact .inl ha
    · exact .inr ⟨_, ha, ht.size⟩

theorem shr_byte (x k : Nat) : (x : Int) / 2 ^ (8 * (k : Int)).toNat = ((x / 256 ^ k : Nat) : Int) := by
  rw [show (8 * (k : Int)).toNat = 8 * k by omega, Int.natCast_ediv, Int.natCast_pow, Int.pow_mul]
  rfl
theorem wrap_byte (q : Nat) : IntKind.u8.wrap (q : Int) = ((UInt8.ofNat q).toNat : Int) := by
  simp [IntKind.wrap_u8']
theorem src_one (w : World) (b : UInt8) : Src Tryz.prog 1 39 (.slice (some ⟨w.heap.size, 0, none⟩) 1 1) 1 (cellsOf [b]) (w.alloc (.cells #[.int .u8 b.toNat] 5)).drew :=
  Src.ofSlice _ Tryz.underlying39 _ 1 1 _ rfl (cell_one_new _ _ _) (cellsOf_one _)

set_option maxRecDepth 100000 in
set_option maxHeartbeats 1000000 in
theorem number_calls (B : Nat) (v : Value) (bs : List UInt8) (x size : Nat) (w : World) (h : Wtr w B v bs) (hx : x < 18446744073709551616) (hsize : size ≤ 8) (hroom : bs.length + 8 ≤ 1099511627776) :
    Calls Tryz.prog 127 #[.pointer (some ⟨B, 0, none⟩), .int .u64 x, .int .i64 size] w (Wrote w B v (bs ++ le x size)) := by
  obtain ⟨i0, hi, hz0, hz1, hz2⟩ := info_parts infoByte
  have HX := Lib.hid hx
  clear hx
  go_enter Tryz.func127, Tryz.ntmps127
  go_wp2
  go_loopw [9] (fun c wr => ∃ k : Nat, k ≤ size ∧ c = .int .i64 k ∧ Went w B v (bs ++ le x k) wr) (fun c _ => size - (intOf c).toNat)
  case atStart => exact ⟨0, Nat.zero_le _, rfl, by simpa [le] using Went.start h⟩
  case round =>
    obtain ⟨k, hk, rfl, v1, hw1, ho1, ht1⟩ := hrel
    have hc := hw1.cell
    have hf := hw1.free
    have hca : ∀ o, (wr.alloc o).cell? ⟨B, 0, none⟩ = some v1 := fun o => (World.cell?_alloc_lt wr o _ hw1.lt).trans hc
    have HW := Lib.hid hw1
    have HT := Lib.hid ht1
    have HO := Lib.hid ho1
    clear hw1 ht1 ho1
    by_cases hlt : k < size
    · obtain ⟨b, HB⟩ : ∃ b, Hid (b = UInt8.ofNat (x / 256 ^ k)) := ⟨_, rfl⟩
      have hll := le_length x k
      have hsh := shr_byte x k
      have hcv := wrap_byte (x / 256 ^ k)
      rw [← HB.out] at hcv
      have hmul : IntKind.i64.wrap (8 * (k : Int)) = 8 * (k : Int) := IntWalk.i64_in _ (by omega)
      generalize x / 256 ^ k = q at hsh hcv
      go_wp2
      go_region_law ((refine step_append_src _ (by rfl) (.tmp 16) (.tmp 22) 39 39 (by rfl) 5 i0 _ 1 1 Tryz.underlying39 hi hz0 hz1 hz2 rfl v1 (bs ++ le x k).length (cellsOf (bs ++ le x k)) (by rfl) ((HW.out.2.alloc _).drew) (.slice (some ⟨wr.heap.size, 0, none⟩) 1 1) 1 (cellsOf [b]) (by rfl) (src_one wr b) (by simp [maxLen, hll]; omega) (by simp [hll]; omega) ?_; intro A2 c2 w2 ho2 hg2 ha2; obtain ⟨hc2, hf2⟩ := HW.out.after (((Turns.refl _ _).alloc _).drew) hg2))
      all_goals
        have e2 : (bs ++ le x k).length + 1 = bs.length + k + 1 := by simp [hll]
        rw [e2] at ho2 ha2
        have R : Went w B v (bs ++ le x (k + 1)) (w2.setCell ⟨B, 0, none⟩ (.slice A2 (bs.length + k + 1) c2)) := by
          have hp := Went.put HW.out (((Turns.refl _ _).alloc _).drew) (by simp [hll]; omega) ho2 hg2 ha2
          rw [List.append_assoc, show le x k ++ [b] = le x (k + 1) from by rw [le, HB.out]] at hp
          exact Went.next HO.out HT.out hp
        clear ho2 hg2 ha2 hc2 hf2 e2 hcv hsh hmul hll HB HW HT HO hc hf hca
        have hR := Lib.hid R
        clear R
        go_wp2
        go_roundw
        case rel => exact ⟨k + 1, by omega, by go_num, hR.out⟩
        case measure => simp [intOf]; omega
    · obtain rfl : k = size := by omega
      go_wp2
      go_ret
      exact ⟨rfl, _, HW.out, HO.out, HT.out⟩
end Go.Proofs.YtclnkboejbnfnaaGreatDoor
