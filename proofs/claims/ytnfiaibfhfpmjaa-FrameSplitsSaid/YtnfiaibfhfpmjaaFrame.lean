/-
  What a framer's Put tells: a frame, in new memory, or that it would be too long.
  Conditions: the framer is nobody else's.
-/
import Derived.Test.YtnfiaibfhfpmjaaOpens
namespace Go.Proofs.Ytnfiaibfhfpmjaa
open Go.RowKit

/-- A Writer that is new since w, with all that it wrote. -/
def NewW (w : World) (B : Nat) (bs : List UInt8) (wr : World) : Prop :=
  w.heap.size ≤ B ∧ (∃ v, Wtr wr B v bs ∧ ∀ k, v.ownBlock = some k → w.heap.size ≤ k) ∧ Turns (fun _ => False) w wr
theorem NewW.zero (w : World) : NewW w w.heap.size [] (w.alloc (.cells #[.slice none 0 0] 64)) :=
  ⟨Nat.le_refl _, ⟨_, wtr_new2 w, fun k hk => by simp [Value.ownBlock] at hk⟩, (Turns.refl _ _).alloc _⟩
theorem NewW.next {w w1 w2 : World} {B : Nat} {v : Value} {bs : List UInt8} (hB : w.heap.size ≤ B) (hv : ∀ k, v.ownBlock = some k → w.heap.size ≤ k) (ht : Turns (fun _ => False) w w1) (h : Went w1 B v bs w2) : NewW w B bs w2 := by
  obtain ⟨v', hw, ho, ht2⟩ := h
  refine ⟨hB, ⟨v', hw, fun k hk => ?_⟩, ht.next ht2 (fun i hi hs => ?_)⟩
  · rcases ho with ho | ⟨k', ho, hk'⟩
    · exact hv k (ho ▸ hk)
    · rw [ho] at hk; injection hk with hk; have := ht.size; omega
  · rcases hs with hs | hs
    · omega
    · have := hv i hs; omega
theorem NewW.drew {w w1 : World} {B : Nat} {bs : List UInt8} (h : NewW w B bs w1) : NewW w B bs w1.drew := by
  obtain ⟨hB, ⟨v, hw, hv⟩, ht⟩ := h
  exact ⟨hB, ⟨v, ⟨hw.1, hw.2.drew⟩, hv⟩, ht.drew⟩
/-- The Writer is told, and has written so much. -/
def Grows (w : World) (B : Nat) (bs : List UInt8) (e : Ending) (w' : World) : Prop := e = .returned (.pointer (some ⟨B, 0, none⟩)) ∧ NewW w B bs w'
theorem nbyte_calls (w : World) (B : Nat) (bs : List UInt8) (xi : Int) (x : Nat) (w1 : World) (h : NewW w B bs w1) (ex : xi = x) (hx : x < 256) (hroom : bs.length + 8 ≤ 1099511627776) :
    Calls Try.prog 15 #[.pointer (some ⟨B, 0, none⟩), .int .u8 xi] w1 (Grows w B (bs ++ le x 1)) := by
  subst ex
  obtain ⟨hB, ⟨v, hw, hv⟩, ht⟩ := h
  exact (byte_calls B v bs x w1 hw hx hroom).mono fun e w' ⟨he, hg⟩ => ⟨he, NewW.next hB hv ht hg⟩
theorem nfour_calls (w : World) (B : Nat) (bs : List UInt8) (xi : Int) (x : Nat) (w1 : World) (h : NewW w B bs w1) (ex : xi = x) (hx : x < 4294967296) (hroom : bs.length + 8 ≤ 1099511627776) :
    Calls Try.prog 16 #[.pointer (some ⟨B, 0, none⟩), .int .u32 xi] w1 (Grows w B (bs ++ le x 4)) := by
  subst ex
  obtain ⟨hB, ⟨v, hw, hv⟩, ht⟩ := h
  exact (four_calls B v bs x w1 hw hx hroom).mono fun e w' ⟨he, hg⟩ => ⟨he, NewW.next hB hv ht hg⟩
theorem nraw_calls (w : World) (B : Nat) (bs l : List UInt8) (u : Value) (w1 : World) (h : NewW w B bs w1) (hu : Rd w1 u l) (hroom : bs.length + l.length ≤ 1099511627776) :
    Calls Try.prog 17 #[.pointer (some ⟨B, 0, none⟩), u] w1 (Grows w B (bs ++ l)) := by
  obtain ⟨hB, ⟨v, hw, hv⟩, ht⟩ := h
  exact (raw_calls B v u bs l w1 hw hu hroom).mono fun e w' ⟨he, hg⟩ => ⟨he, NewW.next hB hv ht hg⟩
/-- New bytes, new since w. -/
def FreshIn (w : World) (l : List UInt8) (e : Ending) (w' : World) : Prop :=
  ∃ v, e = .returned v ∧ w'.ownsRow 0 5 1 v l.length (cellsOf l) ∧ (∀ k, v.ownBlock = some k → w.heap.size ≤ k) ∧ Turns (fun _ => False) w w'
theorem nbytes_calls (w : World) (B : Nat) (bs : List UInt8) (w1 : World) (h : NewW w B bs w1) (hroom : bs.length ≤ 1099511627776) :
    Calls Try.prog 19 #[.pointer (some ⟨B, 0, none⟩)] w1 (FreshIn w bs) := by
  obtain ⟨hB, ⟨v, hw, hv⟩, ht⟩ := h
  exact (bytes_calls B v bs w1 hw hroom).mono fun e w' ⟨v', he, ho, hb, ht'⟩ => ⟨v', he, ho, fun k hk => Nat.le_trans ht.size (hb k hk), ht.next ht' (fun _ _ f => f)⟩

theorem infoFr : (Try.prog.info? 62).map (fun i => (i.zero, i.size, i.bytes)) = some (some (.agg zeroTab), 260, 1040) := by kernel_rfl
theorem zeroFr_run (w : World) : (zeroValue 62).run Try.prog w = .ok (.agg zeroTab) w := by
  obtain ⟨i0, hi, hz0, hz1, hz2⟩ := info_parts infoFr
  simp [zeroValue, typeInfo, hi, hz0]
/-- A new framer. -/
def NewF (w : World) (e : Ending) (w' : World) : Prop := ∃ B, e = .returned (.pointer (some ⟨B, 0, none⟩)) ∧ w.heap.size ≤ B ∧ Tbl w' B false ∧ Turns (fun _ => False) w w'
theorem fnew_calls (w : World) : Calls Try.prog 8 #[] w (NewF w) := by
  have hz := zeroFr_run
  have HF : Hid (NewF w (.returned (.pointer (some ⟨w.heap.size, 0, none⟩))) (w.alloc (.cells zeroTab 62))) := ⟨_, rfl, Nat.le_refl _, Tbl.new_of w _, (Turns.refl _ _).alloc _⟩
  go_enter Try.func8, Try.ntmps8
  go_wp2
  go_ret
  exact HF.out

/-- What a frame has ahead of its sum. -/
def bareB (kind : Nat) (l : List UInt8) : List UInt8 := le 1 1 ++ le kind 1 ++ le l.length 4 ++ l
theorem bareB_length (kind : Nat) (l : List UInt8) : (bareB kind l).length = l.length + 6 := by
  simp only [bareB, List.length_append, le_length]; omega
/-- A frame. -/
def frameB (kind : Nat) (l : List UInt8) : List UInt8 := sealB (bareB kind l)
theorem frameB_length (kind : Nat) (l : List UInt8) : (frameB kind l).length = l.length + 10 := by
  rw [frameB, sealB_length, bareB_length]

/-- Sealed bytes are told, in new memory, without an error; the table is made. -/
def Puts (B : Nat) (l : List UInt8) (w : World) (e : Ending) (w' : World) : Prop :=
  ∃ v', e = .returned (.tuple #[v', .int .i64 0]) ∧ w'.ownsRow 0 5 1 v' l.length (cellsOf l) ∧ (∀ k, v'.ownBlock = some k → w.heap.size ≤ k) ∧ Makes B w w'

theorem fput_long (B kind n : Nat) (A : Option Addr) (c : Nat) (w : World) (h : 65526 < n) (hm : n ≤ 9223372036854775807) :
    Calls Try.prog 9 #[.pointer (some ⟨B, 0, none⟩), .int .u8 kind, .slice A n c] w fun e w' => e = .returned (.tuple #[.slice none 0 0, .int .i64 3]) ∧ w = w' := by
  go_enter Try.func9, Try.ntmps9
  go_wp2
  go_ret2
  exact ⟨rfl, rfl⟩

set_option maxHeartbeats 1000000 in
theorem fput_calls (B : Nat) (m : Bool) (kind : Nat) (u : Value) (l : List UInt8) (w : World) (h : Tbl w B m) (hu : Rd w u l) (hk : kind < 256) (hl : l.length ≤ 65526) :
    Calls Try.prog 9 #[.pointer (some ⟨B, 0, none⟩), .int .u8 kind, u] w (Puts B (frameB kind l) w) := by
  have hBw := h.lt
  have HU := Lib.hid hu
  have HT := Lib.hid h
  have HZ := Lib.hid (NewW.zero w)
  have hbl : (bareB kind l).length ≤ 65536 := by rw [bareB_length]; omega
  have HFR : Hid (frameB kind l = sealB (bareB kind l)) := rfl
  have HBR : Hid (le 1 1 ++ le kind 1 ++ le l.length 4 ++ l = bareB kind l) := rfl
  generalize frameB kind l = fr at *
  generalize bareB kind l = br at *
  obtain ⟨A, c, rfl⟩ := hu.shape
  clear h hu
  generalize hn : l.length = n at *
  have HN := Lib.hid hn
  clear hn
  go_enter Try.func9, Try.ntmps9
  go_wp2_with fail
  with_reducible refine (nbyte_calls w w.heap.size [] _ 1 _ HZ.out (by simp) (by omega) (by simp)).mono ?_
  rintro e w1 ⟨rfl, h1⟩
  rw [List.nil_append] at h1
  have H1 := Lib.hid h1
  clear h1 HZ
  have hr2 : (le 1 1).length = 1 := le_length 1 1
  generalize le 1 1 = b1 at *
  go_wp2_with fail
  with_reducible refine (nbyte_calls w w.heap.size b1 _ kind w1 H1.out (by rfl) hk (by omega)).mono ?_
  rintro e w2 ⟨rfl, h2⟩
  have H2 := Lib.hid h2
  have hr3 : (b1 ++ le kind 1).length = 2 := by rw [List.length_append, le_length, hr2]
  clear h2 H1 hr2
  generalize b1 ++ le kind 1 = b2 at *
  go_wp2_with fail
  with_reducible refine (nfour_calls w w.heap.size b2 _ n w2 H2.out (by go_num) (by omega) (by omega)).mono ?_
  rintro e w3 ⟨rfl, h3⟩
  have H3 := Lib.hid h3
  have hr4 : (b2 ++ le n 4).length + l.length ≤ 1099511627776 := by rw [List.length_append, le_length, HN.out]; omega
  have HU3 := Lib.hid (HU.out.still h3.2.2)
  clear h3 H2 hr3
  generalize b2 ++ le n 4 = b3 at *
  go_wp2_with fail
  with_reducible refine (nraw_calls w w.heap.size b3 l _ w3 H3.out HU3.out hr4).mono ?_
  rw [HBR.out]
  rintro e w4 ⟨rfl, h4⟩
  have H4 := Lib.hid h4.drew
  clear h4 H3 HU3 hr4 HU HBR
  go_wp2_with fail
  go_region_with (first
    | (go_at_call 19; (with_reducible refine (nbytes_calls w w.heap.size br _ H4.out (by omega)).mono ?_); rintro e w5 ⟨v5, rfl, ho5, hb5, ht5⟩; have HT5 := Lib.hid (HT.out.turns ht5 (fun f => f)); have HTU := Lib.hid ht5; have HR5 := Lib.hid (Rd.of_own ho5); have hap : Apart B v5 br := (fun _ k hk => by have := hb5 k hk; omega); have HAP := Lib.hid hap; obtain ⟨A5, c5, rfl⟩ := owns_shape ho5; clear ho5 hb5 ht5 hap)
    | (go_at_call 18; (with_reducible refine (seal_calls B m _ br _ HT5.out HR5.out HAP.out (by omega)).mono ?_); rw [← HFR.out]; rintro e w6 ⟨v6, rfl, ho6, hb6, hm6⟩; have HF : Hid (Puts B fr w (.returned (.tuple #[v6, .int .i64 0])) w6) := ⟨v6, rfl, ho6, fun k hk => Nat.le_trans HTU.out.size (hb6 k hk), hm6.tbl, (HTU.out.mono (fun _ _ f => f.elim)).next hm6.2 (fun _ _ h => h)⟩; obtain ⟨A6, c6, rfl⟩ := owns_shape ho6; clear ho6 hb6 hm6 HT5 HTU HR5 HAP))
  all_goals
    go_wp2
    go_ret2
    exact HF.out
theorem fput_at (B : Nat) (m : Bool) (xi : Int) (kind : Nat) (u : Value) (l : List UInt8) (w : World) (h : Tbl w B m) (hu : Rd w u l) (ex : xi = kind) (hk : kind < 256) (hl : l.length ≤ 65526) :
    Calls Try.prog 9 #[.pointer (some ⟨B, 0, none⟩), .int .u8 xi, u] w (Puts B (frameB kind l) w) := ex ▸ fput_calls B m kind u l w h hu hk hl
end Go.Proofs.Ytnfiaibfhfpmjaa
