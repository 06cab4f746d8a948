/-
  What a table's Seal and Open tell: sealed bytes, in new memory; what was sealed, or why it is nothing.
  Conditions: the table is nobody else's, and not the bytes' own memory; at most 2^39 bytes.
-/
import Derived.Test.YtnfiaibfhfpmjaaSum
namespace Go.Proofs.Ytnfiaibfhfpmjaa
open Go.RowKit

theorem Wtr.turns {S : Nat → Prop} {w w' : World} {B : Nat} {v : Value} {bs : List UInt8} (h : Wtr w B v bs) (ht : Turns S w w') (hB : ¬ S B) (hv : ∀ k, v.ownBlock = some k → ¬ S k) : Wtr w' B v bs :=
  ⟨(ht.block B h.lt hB).trans h.1, ht.owns h.2 hv⟩
/-- Sealed bytes are told, in new memory; the table is made. -/
def Seals (B : Nat) (l : List UInt8) (w : World) (e : Ending) (w' : World) : Prop :=
  ∃ v', e = .returned v' ∧ w'.ownsRow 0 5 1 v' l.length (cellsOf l) ∧ (∀ k, v'.ownBlock = some k → w.heap.size ≤ k) ∧ Makes B w w'
theorem Makes.tbl {B : Nat} {w w' : World} (h : Makes B w w') : Tbl w' B true := h.1
theorem wtr_new2 (w : World) : Wtr (w.alloc (.cells #[.slice none 0 0] 64)) w.heap.size (.slice none 0 0) [] :=
  ⟨heap_alloc_new w _, World.ownsRow_nil _ _ _ _⟩

set_option maxHeartbeats 1000000 in
theorem seal_calls (B : Nat) (m : Bool) (u : Value) (l : List UInt8) (w : World) (h : Tbl w B m) (hu : Rd w u l) (hne : Apart B u l) (hl : l.length ≤ 549755813888) :
    Calls Try.prog 18 #[.pointer (some ⟨B, 0, none⟩), u] w (Seals B (sealB l) w) := by
  have hBw := h.lt
  have ta : Turns (fun _ => False) w (w.alloc (.cells #[.slice none 0 0] 64)) := (Turns.refl (fun _ => False) w).alloc _
  have HW0 := Lib.hid (wtr_new2 w)
  have HU0 := Lib.hid (hu.still ta)
  have HTA := Lib.hid ta
  have HNE := Lib.hid hne
  have HLT := Lib.hid (fun hl => hu.lt hl)
  have HT0 := Lib.hid (h.turns ta (fun f => f))
  have hsz : w.heap.size + 1 = (w.alloc (.cells #[.slice none 0 0] 64)).heap.size := by simp
  have HSZ := Lib.hid hsz
  obtain ⟨A, c, rfl⟩ := hu.shape
  clear h hu hne ta hsz
  go_enter Try.func18, Try.ntmps18
  go_wp2_with fail
  with_reducible refine (raw_calls w.heap.size _ _ [] l _ HW0.out HU0.out (by simp; omega)).mono ?_
  rintro e w1 ⟨rfl, v1, hw1, ho1, ht1⟩
  have hfr : ∀ k, v1.ownBlock = some k → w.heap.size ≤ k := by
    intro k hk
    rcases ho1 with h | ⟨k', h, hk'⟩
    · rw [h] at hk; simp [Value.ownBlock] at hk
    · rw [h] at hk; injection hk with hk; have := HSZ.out; omega
  have t1 : Turns (fun i => i = B) w w1 := (HTA.out.mono (fun _ _ f => f.elim)).next ht1 (fun i hi hs => by
    rcases hs with hs | hs
    · omega
    · simp [Value.ownBlock] at hs)
  have hT1 : Tbl w1 B m := HT0.out.turns ht1 (fun hs => by
    rcases hs with hs | hs
    · omega
    · simp [Value.ownBlock] at hs)
  have hU1 : Rd w1 (.slice A l.length c) l := HU0.out.turns2 ht1 (fun hl k hk hs => by
    have := HLT.out hl k hk
    rcases hs with hs | hs
    · omega
    · simp [Value.ownBlock] at hs)
  rw [List.nil_append] at hw1
  have HW1 := Lib.hid hw1
  have HFR := Lib.hid hfr
  have HTU := Lib.hid t1
  have HT1 := Lib.hid hT1
  have HU1 := Lib.hid hU1
  clear hw1 ho1 ht1 hfr t1 hT1 hU1 HW0 HU0 HTA HT0 HSZ
  go_wp2_with fail
  with_reducible refine (sum_calls B m _ l w1 HT1.out HU1.out HNE.out (by omega)).mono ?_
  rintro e w2 ⟨rfl, hm⟩
  have HM := Lib.hid hm
  have hw2 : Wtr w2 w.heap.size v1 l := HW1.out.turns hm.2 (by omega) (fun k hk => by have := HFR.out k hk; omega)
  have HW2 := Lib.hid hw2
  clear hw2 hm HW1 HT1 HU1
  have HS : Hid (sealB l = l ++ le (crc l).toNat 4) := rfl
  have hcl : (crc l).toNat < 4294967296 := (crc l).isLt
  have HCL := Lib.hid hcl
  clear hcl
  generalize crc l = x at *
  unfold regV
  go_wp2_with fail
  with_reducible refine (four_at w.heap.size v1 l _ x.toNat w2 HW2.out rfl HCL.out (by omega)).mono ?_
  rintro e w3 ⟨rfl, v3, hw3, ho3, ht3⟩
  have t3 : Turns (fun i => i = B) w w3 := (HTU.out.next HM.out.2 (fun _ _ h => h)).next ht3 (fun i hi hs => by
    rcases hs with hs | hs
    · omega
    · have := HFR.out i hs; omega)
  have hT3 : Tbl w3 B true := HM.out.tbl.turns ht3 (fun hs => by
    rcases hs with hs | hs
    · omega
    · have := HFR.out B hs; omega)
  have HW3 := Lib.hid hw3
  have HTU3 := Lib.hid t3
  have HT3 := Lib.hid hT3
  clear hw3 ho3 ht3 t3 hT3 HM HW2 HTU HFR
  have hlen : (l ++ le x.toNat 4).length ≤ 1099511627776 := by rw [List.length_append, le_length]; omega
  have HLEN := Lib.hid hlen
  clear hlen
  generalize l ++ le x.toNat 4 = bs at *
  go_wp2_with fail
  with_reducible refine (bytes_calls w.heap.size v3 bs w3 HW3.out HLEN.out).mono ?_
  rintro e w4 ⟨v4, rfl, ho4, hb4, ht4⟩
  have HF : Hid (Seals B bs w (.returned v4) w4) := ⟨v4, rfl, ho4, fun k hk => Nat.le_trans HTU3.out.size (hb4 k hk), HT3.out.turns ht4 (fun f => f), HTU3.out.next ht4 (fun _ _ f => f.elim)⟩
  obtain ⟨A4, c4, rfl⟩ := owns_shape ho4
  clear ho4 hb4 ht4 HW3 HTU3 HT3
  go_wp2
  go_ret
  rw [HS.out]
  exact HF.out
end Go.Proofs.Ytnfiaibfhfpmjaa
