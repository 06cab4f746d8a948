/-
  The law OctetBack tells true of any items, and turns nothing that was there.
  Conditions: none but that the items can be read.
-/
import Derived.Test.YtgipafdfmghogaaBack
import Derived.Test.YtgipafdfmghogaaOpen
import Derived.Deep.DeepCutAuto
import Derived.Deep.LoopGhost
namespace Go.Proofs.Ytgipafdfmghogaa
open Go.RowKit

theorem flat_next {l : List (List UInt8)} {q : Nat} {p : List UInt8} (bs : List UInt8) (h : l[q]? = some p) : bs ++ (l.take q).flatten ++ p = bs ++ (l.take (q + 1)).flatten := by
  obtain ⟨hl, he⟩ := List.getElem?_eq_some_iff.1 h
  rw [List.take_succ_eq_append_getElem hl, List.flatten_append, he]
  simp
theorem flat_take_le (l : List (List UInt8)) (q : Nat) : (l.take q).flatten.length ≤ l.flatten.length := by
  have h : l.flatten = (l.take q).flatten ++ (l.drop q).flatten := by rw [← List.flatten_append, List.take_append_drop]
  rw [h, List.length_append]
  omega

/-- What each operation of the writing makes. -/
def Y7 (B X kd x : Nat) (is : Bool) (s : ByteArray) (la : Option Addr) (n lc : Nat) : Nat → Value → World → Prop
  | 0, v, _ => v = .pointer (some ⟨B, 0, none⟩)
  | 1, v, _ => v = .pointer (some ⟨X, 0, none⟩)
  | 2, v, _ => v = .int .u8 kd
  | 3, v, _ => v = .pointer (some ⟨B, 0, none⟩)
  | 4, v, _ => v = .pointer (some ⟨X, 1, none⟩)
  | 5, v, _ => v = .int .u64 x
  | 6, v, _ => v = .int .u16 ((x % 65536 : Nat) : Int)
  | 7, v, _ => v = .pointer (some ⟨B, 0, none⟩)
  | 8, v, _ => v = .pointer (some ⟨X, 1, none⟩)
  | 9, v, _ => v = .int .u64 x
  | 10, v, _ => v = .int .u32 ((x % 4294967296 : Nat) : Int)
  | 11, v, _ => v = .pointer (some ⟨B, 0, none⟩)
  | 12, v, _ => v = .pointer (some ⟨X, 1, none⟩)
  | 13, v, _ => v = .int .u64 x
  | 14, v, _ => v = .pointer (some ⟨B, 0, none⟩)
  | 15, v, _ => v = .pointer (some ⟨X, 2, none⟩)
  | 16, v, _ => v = .bool is
  | 17, v, _ => v = .pointer (some ⟨B, 0, none⟩)
  | 18, v, _ => v = .pointer (some ⟨X, 3, none⟩)
  | 19, v, _ => v = .string s
  | 20, v, _ => v = .pointer (some ⟨B, 0, none⟩)
  | 21, v, _ => v = .pointer (some ⟨X, 4, none⟩)
  | 22, v, _ => v = .slice la n lc
  | 23, v, _ => v = .pointer (some ⟨B, 0, none⟩)
  | 24, v, _ => v = .pointer (some ⟨X, 3, none⟩)
  | 25, v, _ => v = .string s
  | 26, v, W => Frz W v s.data.toList
  | _, v, _ => v = .pointer (some ⟨B, 0, none⟩)

theorem Y7_keep {B X kd x : Nat} {is : Bool} {s : ByteArray} {la : Option Addr} {n lc : Nat} {W W' : World} (hf : ∀ u, Frz W u s.data.toList → Frz W' u s.data.toList) (j : Nat) (u : Value) (h : Y7 B X kd x is s la n lc j u W) : Y7 B X kd x is s la n lc j u W' := by
  match j, h with
  | 0, h => exact h
  | 1, h => exact h
  | 2, h => exact h
  | 3, h => exact h
  | 4, h => exact h
  | 5, h => exact h
  | 6, h => exact h
  | 7, h => exact h
  | 8, h => exact h
  | 9, h => exact h
  | 10, h => exact h
  | 11, h => exact h
  | 12, h => exact h
  | 13, h => exact h
  | 14, h => exact h
  | 15, h => exact h
  | 16, h => exact h
  | 17, h => exact h
  | 18, h => exact h
  | 19, h => exact h
  | 20, h => exact h
  | 21, h => exact h
  | 22, h => exact h
  | 23, h => exact h
  | 24, h => exact h
  | 25, h => exact h
  | 26, h => exact hf u h
  | _ + 27, h => exact h

/-- What each operation of the reading makes. -/
def Y13 (R X kd x : Nat) (is : Bool) (s : ByteArray) (la : Option Addr) (ls : List ByteArray) (lc : Nat) : Nat → Value → World → Prop
  | 0, v, _ => v = .pointer (some ⟨R, 0, none⟩)
  | 1, v, _ => v = .int .u8 kd
  | 2, v, _ => v = .pointer (some ⟨X, 0, none⟩)
  | 3, v, _ => v = .int .u8 kd
  | 4, v, _ => v = .bool false
  | 5, v, _ => v = .bool false
  | 6, v, _ => v = .pointer (some ⟨R, 0, none⟩)
  | 7, v, _ => v = .int .u16 ((x % 65536 : Nat) : Int)
  | 8, v, _ => v = .pointer (some ⟨X, 1, none⟩)
  | 9, v, _ => v = .int .u64 x
  | 10, v, _ => v = .int .u16 ((x % 65536 : Nat) : Int)
  | 11, v, _ => v = .bool false
  | 12, v, _ => v = .bool false
  | 13, v, _ => v = .bool false
  | 14, v, _ => v = .pointer (some ⟨R, 0, none⟩)
  | 15, v, _ => v = .int .u32 ((x % 4294967296 : Nat) : Int)
  | 16, v, _ => v = .pointer (some ⟨X, 1, none⟩)
  | 17, v, _ => v = .int .u64 x
  | 18, v, _ => v = .int .u32 ((x % 4294967296 : Nat) : Int)
  | 19, v, _ => v = .bool false
  | 20, v, _ => v = .bool false
  | 21, v, _ => v = .bool false
  | 22, v, _ => v = .pointer (some ⟨R, 0, none⟩)
  | 23, v, _ => v = .int .u64 x
  | 24, v, _ => v = .pointer (some ⟨X, 1, none⟩)
  | 25, v, _ => v = .int .u64 x
  | 26, v, _ => v = .bool false
  | 27, v, _ => v = .bool false
  | 28, v, _ => v = .bool false
  | 29, v, _ => v = .pointer (some ⟨R, 0, none⟩)
  | 30, v, _ => v = .bool is
  | 31, v, _ => v = .pointer (some ⟨X, 2, none⟩)
  | 32, v, _ => v = .bool is
  | 33, v, _ => v = .bool false
  | 34, v, _ => v = .bool false
  | 35, v, _ => v = .bool false
  | 36, v, _ => v = .pointer (some ⟨R, 0, none⟩)
  | 37, v, _ => v = .string s
  | 38, v, _ => v = .pointer (some ⟨X, 3, none⟩)
  | 39, v, _ => v = .string s
  | 40, v, _ => v = .bool false
  | 41, v, _ => v = .bool false
  | 42, v, _ => v = .bool false
  | 43, v, _ => v = .pointer (some ⟨R, 0, none⟩)
  | 44, v, W => ∃ A c, v = .slice A ls.length c ∧ RdS W A ls ∧ ∀ a, A = some a → a.block ≠ R
  | 45, v, _ => v = .pointer (some ⟨X, 4, none⟩)
  | 46, v, _ => v = .slice la ls.length lc
  | 47, v, _ => v = .bool true
  | 48, v, _ => v = .bool false
  | 49, v, _ => v = .bool false
  | 50, v, _ => v = .bool false
  | 51, v, _ => v = .pointer (some ⟨R, 0, none⟩)
  | 52, v, _ => v = .pointer (some ⟨X, 3, none⟩)
  | 53, v, _ => v = .string s
  | 54, v, _ => v = .int .i64 s.size
  | 55, v, W => Rd W v s.data.toList ∧ ∀ k, v.ownBlock = some k → k ≠ R
  | 56, v, _ => v = .string s
  | 57, v, _ => v = .pointer (some ⟨X, 3, none⟩)
  | 58, v, _ => v = .string s
  | 59, v, _ => v = .bool false
  | _, v, _ => v = .bool false

theorem Y13_keep {R X kd x : Nat} {is : Bool} {s : ByteArray} {la : Option Addr} {ls : List ByteArray} {lc : Nat} {W W' : World} (ht : Turns (fun i => i = R) W W') (j : Nat) (u : Value) (h : Y13 R X kd x is s la ls lc j u W) : Y13 R X kd x is s la ls lc j u W' := by
  match j, h with
  | 0, h => exact h
  | 1, h => exact h
  | 2, h => exact h
  | 3, h => exact h
  | 4, h => exact h
  | 5, h => exact h
  | 6, h => exact h
  | 7, h => exact h
  | 8, h => exact h
  | 9, h => exact h
  | 10, h => exact h
  | 11, h => exact h
  | 12, h => exact h
  | 13, h => exact h
  | 14, h => exact h
  | 15, h => exact h
  | 16, h => exact h
  | 17, h => exact h
  | 18, h => exact h
  | 19, h => exact h
  | 20, h => exact h
  | 21, h => exact h
  | 22, h => exact h
  | 23, h => exact h
  | 24, h => exact h
  | 25, h => exact h
  | 26, h => exact h
  | 27, h => exact h
  | 28, h => exact h
  | 29, h => exact h
  | 30, h => exact h
  | 31, h => exact h
  | 32, h => exact h
  | 33, h => exact h
  | 34, h => exact h
  | 35, h => exact h
  | 36, h => exact h
  | 37, h => exact h
  | 38, h => exact h
  | 39, h => exact h
  | 40, h => exact h
  | 41, h => exact h
  | 42, h => exact h
  | 43, h => exact h
  | 44, h =>
    obtain ⟨A, c, h1, h2, h3⟩ := h
    exact ⟨A, c, h1, h2.turns ht (fun _ a ha => h3 a ha), h3⟩
  | 45, h => exact h
  | 46, h => exact h
  | 47, h => exact h
  | 48, h => exact h
  | 49, h => exact h
  | 50, h => exact h
  | 51, h => exact h
  | 52, h => exact h
  | 53, h => exact h
  | 54, h => exact h
  | 55, h => exact ⟨h.1.turns ht h.2, h.2⟩
  | 56, h => exact h
  | 57, h => exact h
  | 58, h => exact h
  | 59, h => exact h
  | _ + 60, h => exact h

set_option maxRecDepth 100000 in
set_option maxHeartbeats 16000000 in
theorem back_walk (A : Option Addr) (c : Nat) (its : List It) (w : World) (h : RdI w A its) (hm : its.length ≤ 9223372036854775807) (hwf : ∀ t ∈ its, ItWf t) :
    Calls Try.prog 6 #[.slice A its.length c] w (Told true w) := by
  have HI := Lib.hid h
  have HWF := Lib.hid hwf
  clear h hwf
  go_enter Try.func6, Try.ntmps6
  go_wp2_with fail
  with_reducible refine (lives_calls w).mono ?_
  rintro e w1 ⟨rfl, t1⟩
  have HT1 := Lib.hid t1
  have HI1 := Lib.hid (HI.out.still t1)
  clear t1
  go_wp2_with fail
  with_reducible refine (few_at A its.length c its w1 HI1.out rfl hm).mono ?_
  rintro e w2 ⟨rfl, t2⟩
  have HT2 := Lib.hid (HT1.out.still t2)
  clear t2 HI1 HT1
  by_cases hf : fewB its = true
  · obtain ⟨ha, hl⟩ := fewB_ok hf
    rw [hf]
    have HA := Lib.hid ha
    clear hf ha
    obtain ⟨n, hn⟩ : ∃ n, n = its.length := ⟨_, rfl⟩
    rw [← hn] at hl hm ⊢
    have HN := Lib.hid hn
    have hge : w.heap.size ≤ w2.heap.size := HT2.out.size
    have HW0 := Lib.hid (wtr_new w2)
    have HT0 := Lib.hid (HT2.out.alloc (.cells #[.slice none 0 0] 32))
    clear hn HT2
    go_wp2
    go_loopg [21] n (fun gk i wr => ∃ (k : Nat) (v : Value), k ≤ n ∧ gk = n - k ∧ i = .int .i64 k ∧ Wtr wr w2.heap.size v (backB (its.take k)) ∧ (∀ j, v.ownBlock = some j → w.heap.size ≤ j) ∧ Turns (fun _ => False) w wr)
    case atStart => exact ⟨0, _, Nat.zero_le _, rfl, rfl, HW0.out, by simp [Value.ownBlock], HT0.out⟩
    case round =>
      obtain ⟨k, v, hk, rfl, rfl, hwt, hvo, htr⟩ := hrel
      clear HW0 HT0
      by_cases hlt : k < n
      · have k1 : k < its.length := by have := HN.out; omega
        obtain ⟨b, off, t, rfl, hb, hcl, hrs, hs1, hs2, hs3, hit⟩ := (HI.out.still htr).at_ k k1
        have htm : t ∈ its := List.mem_of_getElem? hit
        have hok : itOk t = true := List.all_eq_true.1 HA.out t htm
        have hwft := HWF.out t htm
        have hrsl := (HI.out.2 t htm).1.lt
        have hlen : (backB (its.take k)).length ≤ 30000 := by
          have h1 := backB_length _ (all_take HA.out k)
          have h2 : (its.take k).length ≤ k := List.length_take_le _ _
          omega
        have hbl := t.back_length hok
        have hsn := backB_snoc hit
        have c0 : wr.cell? ⟨b, off + k * 8, none⟩ = _ := hcl 0 _ rfl
        have c1 := hcl 1 _ rfl
        have c2 := hcl 2 _ rfl
        have c3 := hcl 3 _ rfl
        have c4 := hcl 4 _ rfl
        have c5 := hcl 5 _ rfl
        have c6 := hcl 6 _ rfl
        have c7 := hcl 7 _ rfl
        obtain ⟨kind, xi, is, s, la, ls, lc, mo, lo, ee⟩ := t
        obtain ⟨k0, kb, x0, xb, hlc, hlm, _⟩ := hwft
        dsimp only at *
        obtain ⟨kd, rfl⟩ := Int.eq_ofNat_of_zero_le k0
        obtain ⟨x, rfl⟩ := Int.eq_ofNat_of_zero_le x0
        simp only [itOk, Bool.and_eq_true, decide_eq_true_eq, List.all_eq_true] at hok
        obtain ⟨⟨ho1, ho2⟩, ho3⟩ := hok
        have hsn' : backB (its.take (k + 1)) = backB (its.take k) ++ (parts kd x is s ls).flatten := hsn
        generalize hbn : backB (its.take (k + 1)) = bn at *
        generalize backB (its.take k) = bs at *
        have HBN := Lib.hid hbn
        have HSN := Lib.hid hsn'
        clear hbn hsn' hsn hit htm k1 hcl hs1 hs2 hs3 hb
        obtain ⟨wa, hwa⟩ : ∃ wa, wa = wr.alloc (.cells #[.int .u8 kd, .int .u64 x, .bool is, .string s, .slice la ls.length lc, .int .i64 mo, .int .i64 lo, .int .i64 ee] 27) := ⟨_, rfl⟩
        have hta : Turns (fun _ => False) wr wa := by rw [hwa]; exact (Turns.refl _ _).alloc _
        have hbx : wa.heap[wr.heap.size]? = some (.cells #[.int .u8 kd, .int .u64 x, .bool is, .string s, .slice la ls.length lc, .int .i64 mo, .int .i64 lo, .int .i64 ee] 27 (0, 0)) := by rw [hwa]; exact heap_alloc_new wr _
        have hwta := hwt.still hta
        have hwr : w.heap.size ≤ wr.heap.size := htr.size
        have hBw : w2.heap.size < wr.heap.size := hwt.lt
        have hvl : ∀ j, v.ownBlock = some j → j < wr.heap.size := fun j hj => (hwt.2.lt j hj).2
        have HX0 : Hid (∀ W, Turns (fun i => i = w2.heap.size ∨ v.ownBlock = some i) wa W → W.heap[wr.heap.size]? = some (.cells #[.int .u8 kd, .int .u64 x, .bool is, .string s, .slice la ls.length lc, .int .i64 mo, .int .i64 lo, .int .i64 ee] 27 (0, 0))) := fun W hW => by
          refine (hW.block wr.heap.size (by rw [hwa]; simp) ?_).trans hbx
          rintro (he | he)
          · omega
          · have := hvl _ he; omega
        have HTG : Hid (∀ (L : Nat → Bool) W, SeqG [3, 7, 11, 14, 17, 20, 23, 27] (fun m W => Went wa w2.heap.size v (bs ++ ((parts kd x is s ls).take m).flatten) W) L W → Turns (fun i => i = w2.heap.size ∨ v.ownBlock = some i) wa W) := fun L W hG => by
          obtain ⟨m, _, hs, _⟩ := hG
          exact hs.turns
        have HC0 : Hid (∀ {L : Nat → Bool} W, SeqG [3, 7, 11, 14, 17, 20, 23, 27] (fun m W => Went wa w2.heap.size v (bs ++ ((parts kd x is s ls).take m).flatten) W) L W → W.cell? ⟨wr.heap.size, 0, none⟩ = some (.int .u8 kd)) := fun W hG => by rw [cell_of_row W wr.heap.size 0 _ _ (0, 0) (HX0.out W (HTG.out _ W hG))]; rfl
        have HC1 : Hid (∀ {L : Nat → Bool} W, SeqG [3, 7, 11, 14, 17, 20, 23, 27] (fun m W => Went wa w2.heap.size v (bs ++ ((parts kd x is s ls).take m).flatten) W) L W → W.cell? ⟨wr.heap.size, 1, none⟩ = some (.int .u64 x)) := fun W hG => by rw [cell_of_row W wr.heap.size 1 _ _ (0, 0) (HX0.out W (HTG.out _ W hG))]; rfl
        have HC2 : Hid (∀ {L : Nat → Bool} W, SeqG [3, 7, 11, 14, 17, 20, 23, 27] (fun m W => Went wa w2.heap.size v (bs ++ ((parts kd x is s ls).take m).flatten) W) L W → W.cell? ⟨wr.heap.size, 2, none⟩ = some (.bool is)) := fun W hG => by rw [cell_of_row W wr.heap.size 2 _ _ (0, 0) (HX0.out W (HTG.out _ W hG))]; rfl
        have HC3 : Hid (∀ {L : Nat → Bool} W, SeqG [3, 7, 11, 14, 17, 20, 23, 27] (fun m W => Went wa w2.heap.size v (bs ++ ((parts kd x is s ls).take m).flatten) W) L W → W.cell? ⟨wr.heap.size, 3, none⟩ = some (.string s)) := fun W hG => by rw [cell_of_row W wr.heap.size 3 _ _ (0, 0) (HX0.out W (HTG.out _ W hG))]; rfl
        have HC4 : Hid (∀ {L : Nat → Bool} W, SeqG [3, 7, 11, 14, 17, 20, 23, 27] (fun m W => Went wa w2.heap.size v (bs ++ ((parts kd x is s ls).take m).flatten) W) L W → W.cell? ⟨wr.heap.size, 4, none⟩ = some (.slice la ls.length lc)) := fun W hG => by rw [cell_of_row W wr.heap.size 4 _ _ (0, 0) (HX0.out W (HTG.out _ W hG))]; rfl
        have HG0 : Hid (SeqG [3, 7, 11, 14, 17, 20, 23, 27] (fun m W => Went wa w2.heap.size v (bs ++ ((parts kd x is s ls).take m).flatten) W) (fun _ => false) wa.drew) := SeqG.start (by rw [show ((parts kd x is s ls).take 0).flatten = [] from rfl, List.append_nil]; exact (Went.start hwta).then_still (Turns.refl _ _).drew)
        have HLP : Hid (∀ q, (bs ++ ((parts kd x is s ls).take q).flatten).length ≤ 31000) := fun q => by
          have h1 := flat_take_le (parts kd x is s ls) q
          have h2 : (parts kd x is s ls).flatten.length ≤ 1000 := hbl
          rw [List.length_append]
          omega
        have HLS : Hid (∀ t ∈ ls, t.size ≤ 65535) := fun t ht => Nat.le_trans (ho3 t ht) (by omega)
        have HRW : Hid (∀ W, Turns (fun i => i = w2.heap.size ∨ v.ownBlock = some i) wa W → RdS W la ls) := fun W hW => by
          refine (hrs.still hta).turns hW (fun hne a ha => ?_)
          have h1 := hrsl hne a ha
          rintro (he | he)
          · omega
          · have := hvo _ he; omega
        have HDJ : Hid (∀ vq : Value, (vq.ownBlock = v.ownBlock ∨ ∃ k, vq.ownBlock = some k ∧ wa.heap.size ≤ k) → ls ≠ [] → ∀ a, la = some a → ¬ (a.block = w2.heap.size ∨ vq.ownBlock = some a.block)) := fun vq hq hne a ha => by
          have h1 := hrsl hne a ha
          rintro (he | he)
          · omega
          · rcases hq with hq | ⟨i, hi, hil⟩
            · rw [hq] at he; have := hvo _ he; omega
            · rw [hi] at he; injection he with he; have := hta.size; omega
        have HXB : Hid (x < 18446744073709551616) := by show x < _; omega
        have hkd : kd < 256 := by omega
        have hc16 : IntKind.u16.wrap (x : Int) = ((x % 65536 : Nat) : Int) := by rw [IntKind.wrap_u16]; omega
        have hc32 : IntKind.u32.wrap (x : Int) = ((x % 4294967296 : Nat) : Int) := by rw [IntKind.wrap_u32']; omega
        have HVO := Lib.hid hvo
        have HTR := Lib.hid htr
        have HTA := Lib.hid hta
        have HWA := Lib.hid hwa
        clear hbl hlen hrs hrsl hwt hwta hvl hvo htr hta hbx ho3 hwa x0 xb k0 kb
        go_upto_region 7 with fail
        rw [← HWA.out]
        refine wp_region_st (by kernel_rfl) (Y7 w2.heap.size wr.heap.size kd x is s la ls.length lc) (SeqG [3, 7, 11, 14, 17, 20, 23, 27] (fun m W => Went wa w2.heap.size v (bs ++ ((parts kd x is s ls).take m).flatten) W)) ?F7 ?hF7 (by kernel_rfl) (by kernel_rfl) HG0.out ?step7 ?fin7
        case hF7 =>
          intro x
          simp only [List.map_cons, List.map_nil, putL, Act.put, List.setIfInBounds_toArray, List.set_cons_zero, List.set_cons_succ, Nat.zero_add, Nat.reduceAdd]
          exact rfl
        case step7 =>
          refine ⟨?_, ?_, ?_, ?_, ?_, ?_, ?_, ?_, ?_, ?_, ?_, ?_, ?_, ?_, ?_, ?_, ?_, ?_, ?_, ?_, ?_, ?_, ?_, ?_, ?_, ?_, ?_, ?_, trivial⟩
          all_goals intro L y W hL hd hcl hG hY K hK
          · clear hd hcl hY
            go_simp
            exact hK _ _ rfl (hG.same 0 rfl (fun _ h => h)) (fun _ _ h => h)
          · clear hd hcl hY
            go_simp
            exact hK _ _ rfl (hG.same 1 rfl (fun _ h => h)) (fun _ _ h => h)
          · have h1 : y 1 = _ := hY 1 (hd 1 rfl)
            have hcell := HC0.out W hG
            clear hd hcl hY
            simp only [h1] at hK
            go_simp
            exact hK _ _ rfl (hG.same 2 rfl (fun _ h => h)) (fun _ _ h => h)
          · have h0 : y 0 = _ := hY 0 (hd 0 rfl)
            have h2 : y 2 = _ := hY 2 (hd 2 rfl)
            have hst := hG.at_ 0 (by decide) hL (.inl rfl)
            have hnx := fun W' h => hG.next (W' := W') 0 3 (by decide) rfl hL (.inl rfl) (by decide) h
            obtain ⟨vq, hwq, hoq, htq⟩ := hst
            have hlq := HLP.out 0
            have hcall := byte_calls w2.heap.size vq _ kd W hwq hkd (by omega)
            have HCALL := Lib.hid hcall
            have HNX := Lib.hid hnx
            have HWQ := Lib.hid hwq
            have HOQ := Lib.hid hoq
            have HTQ := Lib.hid htq
            clear hcall hnx hwq hoq htq hlq
            clear hd hcl hY
            simp only [h0, h2] at hK
            go_simp
            refine HCALL.out.mono ?_
            rintro e W' ⟨rfl, hwent⟩
            refine hK _ _ rfl (HNX.out W' ?_) (fun j _ h => Y7_keep (fun u hu => hu.keep HWQ.out hwent.turns) j _ h)
            have hfin := Went.next HOQ.out HTQ.out hwent
            rwa [flat_next bs (l := parts kd x is s ls) (q := 0) rfl] at hfin
          · clear hd hcl hY
            go_simp
            exact hK _ _ rfl (hG.same 4 rfl (fun _ h => h)) (fun _ _ h => h)
          · have h4 : y 4 = _ := hY 4 (hd 4 rfl)
            have hcell := HC1.out W hG
            clear hd hcl hY
            simp only [h4] at hK
            go_simp
            exact hK _ _ rfl (hG.same 5 rfl (fun _ h => h)) (fun _ _ h => h)
          · have h5 : y 5 = _ := hY 5 (hd 5 rfl)
            clear hd hcl hY
            simp only [h5] at hK
            go_simp
            exact hK _ _ rfl (hG.same 6 rfl (fun _ h => h)) (fun _ _ h => h)
          · have h3 : y 3 = _ := hY 3 (hd 3 rfl)
            have h6 : y 6 = _ := hY 6 (hd 6 rfl)
            have hst := hG.at_ 1 (by decide) hL (.inr (hd 3 rfl))
            have hnx := fun W' h => hG.next (W' := W') 1 7 (by decide) rfl hL (.inr (hd 3 rfl)) (by decide) h
            obtain ⟨vq, hwq, hoq, htq⟩ := hst
            have hlq := HLP.out 1
            have hcall := two_mod w2.heap.size vq _ x W hwq (by omega)
            have HCALL := Lib.hid hcall
            have HNX := Lib.hid hnx
            have HWQ := Lib.hid hwq
            have HOQ := Lib.hid hoq
            have HTQ := Lib.hid htq
            clear hcall hnx hwq hoq htq hlq
            clear hd hcl hY
            simp only [h3, h6] at hK
            go_simp
            refine HCALL.out.mono ?_
            rintro e W' ⟨rfl, hwent⟩
            refine hK _ _ rfl (HNX.out W' ?_) (fun j _ h => Y7_keep (fun u hu => hu.keep HWQ.out hwent.turns) j _ h)
            have hfin := Went.next HOQ.out HTQ.out hwent
            rwa [flat_next bs (l := parts kd x is s ls) (q := 1) rfl] at hfin
          · clear hd hcl hY
            go_simp
            exact hK _ _ rfl (hG.same 8 rfl (fun _ h => h)) (fun _ _ h => h)
          · have h8 : y 8 = _ := hY 8 (hd 8 rfl)
            have hcell := HC1.out W hG
            clear hd hcl hY
            simp only [h8] at hK
            go_simp
            exact hK _ _ rfl (hG.same 9 rfl (fun _ h => h)) (fun _ _ h => h)
          · have h9 : y 9 = _ := hY 9 (hd 9 rfl)
            clear hd hcl hY
            simp only [h9] at hK
            go_simp
            exact hK _ _ rfl (hG.same 10 rfl (fun _ h => h)) (fun _ _ h => h)
          · have h7 : y 7 = _ := hY 7 (hd 7 rfl)
            have h10 : y 10 = _ := hY 10 (hd 10 rfl)
            have hst := hG.at_ 2 (by decide) hL (.inr (hd 7 rfl))
            have hnx := fun W' h => hG.next (W' := W') 2 11 (by decide) rfl hL (.inr (hd 7 rfl)) (by decide) h
            obtain ⟨vq, hwq, hoq, htq⟩ := hst
            have hlq := HLP.out 2
            have hcall := four_mod w2.heap.size vq _ x W hwq (by omega)
            have HCALL := Lib.hid hcall
            have HNX := Lib.hid hnx
            have HWQ := Lib.hid hwq
            have HOQ := Lib.hid hoq
            have HTQ := Lib.hid htq
            clear hcall hnx hwq hoq htq hlq
            clear hd hcl hY
            simp only [h7, h10] at hK
            go_simp
            refine HCALL.out.mono ?_
            rintro e W' ⟨rfl, hwent⟩
            refine hK _ _ rfl (HNX.out W' ?_) (fun j _ h => Y7_keep (fun u hu => hu.keep HWQ.out hwent.turns) j _ h)
            have hfin := Went.next HOQ.out HTQ.out hwent
            rwa [flat_next bs (l := parts kd x is s ls) (q := 2) rfl] at hfin
          · clear hd hcl hY
            go_simp
            exact hK _ _ rfl (hG.same 12 rfl (fun _ h => h)) (fun _ _ h => h)
          · have h12 : y 12 = _ := hY 12 (hd 12 rfl)
            have hcell := HC1.out W hG
            clear hd hcl hY
            simp only [h12] at hK
            go_simp
            exact hK _ _ rfl (hG.same 13 rfl (fun _ h => h)) (fun _ _ h => h)
          · have h11 : y 11 = _ := hY 11 (hd 11 rfl)
            have h13 : y 13 = _ := hY 13 (hd 13 rfl)
            have hst := hG.at_ 3 (by decide) hL (.inr (hd 11 rfl))
            have hnx := fun W' h => hG.next (W' := W') 3 14 (by decide) rfl hL (.inr (hd 11 rfl)) (by decide) h
            obtain ⟨vq, hwq, hoq, htq⟩ := hst
            have hlq := HLP.out 3
            have hcall := eight_calls w2.heap.size vq _ x W hwq HXB.out (by omega)
            have HCALL := Lib.hid hcall
            have HNX := Lib.hid hnx
            have HWQ := Lib.hid hwq
            have HOQ := Lib.hid hoq
            have HTQ := Lib.hid htq
            clear hcall hnx hwq hoq htq hlq
            clear hd hcl hY
            simp only [h11, h13] at hK
            go_simp
            refine HCALL.out.mono ?_
            rintro e W' ⟨rfl, hwent⟩
            refine hK _ _ rfl (HNX.out W' ?_) (fun j _ h => Y7_keep (fun u hu => hu.keep HWQ.out hwent.turns) j _ h)
            have hfin := Went.next HOQ.out HTQ.out hwent
            rwa [flat_next bs (l := parts kd x is s ls) (q := 3) rfl] at hfin
          · clear hd hcl hY
            go_simp
            exact hK _ _ rfl (hG.same 15 rfl (fun _ h => h)) (fun _ _ h => h)
          · have h15 : y 15 = _ := hY 15 (hd 15 rfl)
            have hcell := HC2.out W hG
            clear hd hcl hY
            simp only [h15] at hK
            go_simp
            exact hK _ _ rfl (hG.same 16 rfl (fun _ h => h)) (fun _ _ h => h)
          · have h14 : y 14 = _ := hY 14 (hd 14 rfl)
            have h16 : y 16 = _ := hY 16 (hd 16 rfl)
            have hst := hG.at_ 4 (by decide) hL (.inr (hd 14 rfl))
            have hnx := fun W' h => hG.next (W' := W') 4 17 (by decide) rfl hL (.inr (hd 14 rfl)) (by decide) h
            obtain ⟨vq, hwq, hoq, htq⟩ := hst
            have hlq := HLP.out 4
            have hcall := truth_calls w2.heap.size vq _ is W hwq (by omega)
            have HCALL := Lib.hid hcall
            have HNX := Lib.hid hnx
            have HWQ := Lib.hid hwq
            have HOQ := Lib.hid hoq
            have HTQ := Lib.hid htq
            clear hcall hnx hwq hoq htq hlq
            clear hd hcl hY
            simp only [h14, h16] at hK
            go_simp
            refine HCALL.out.mono ?_
            rintro e W' ⟨rfl, hwent⟩
            refine hK _ _ rfl (HNX.out W' ?_) (fun j _ h => Y7_keep (fun u hu => hu.keep HWQ.out hwent.turns) j _ h)
            have hfin := Went.next HOQ.out HTQ.out hwent
            rwa [flat_next bs (l := parts kd x is s ls) (q := 4) rfl] at hfin
          · clear hd hcl hY
            go_simp
            exact hK _ _ rfl (hG.same 18 rfl (fun _ h => h)) (fun _ _ h => h)
          · have h18 : y 18 = _ := hY 18 (hd 18 rfl)
            have hcell := HC3.out W hG
            clear hd hcl hY
            simp only [h18] at hK
            go_simp
            exact hK _ _ rfl (hG.same 19 rfl (fun _ h => h)) (fun _ _ h => h)
          · have h17 : y 17 = _ := hY 17 (hd 17 rfl)
            have h19 : y 19 = _ := hY 19 (hd 19 rfl)
            have hst := hG.at_ 5 (by decide) hL (.inr (hd 17 rfl))
            have hnx := fun W' h => hG.next (W' := W') 5 20 (by decide) rfl hL (.inr (hd 17 rfl)) (by decide) h
            obtain ⟨vq, hwq, hoq, htq⟩ := hst
            have hlq := HLP.out 5
            have hcall := text_all w2.heap.size vq _ s W hwq (by omega) (by omega)
            have HCALL := Lib.hid hcall
            have HNX := Lib.hid hnx
            have HWQ := Lib.hid hwq
            have HOQ := Lib.hid hoq
            have HTQ := Lib.hid htq
            clear hcall hnx hwq hoq htq hlq
            clear hd hcl hY
            simp only [h17, h19] at hK
            go_simp
            refine HCALL.out.mono ?_
            rintro e W' ⟨rfl, hwent⟩
            refine hK _ _ rfl (HNX.out W' ?_) (fun j _ h => Y7_keep (fun u hu => hu.keep HWQ.out hwent.turns) j _ h)
            have hfin := Went.next HOQ.out HTQ.out hwent
            rwa [flat_next bs (l := parts kd x is s ls) (q := 5) rfl] at hfin
          · clear hd hcl hY
            go_simp
            exact hK _ _ rfl (hG.same 21 rfl (fun _ h => h)) (fun _ _ h => h)
          · have h21 : y 21 = _ := hY 21 (hd 21 rfl)
            have hcell := HC4.out W hG
            clear hd hcl hY
            simp only [h21] at hK
            go_simp
            exact hK _ _ rfl (hG.same 22 rfl (fun _ h => h)) (fun _ _ h => h)
          · have h20 : y 20 = _ := hY 20 (hd 20 rfl)
            have h22 : y 22 = _ := hY 22 (hd 22 rfl)
            have hst := hG.at_ 6 (by decide) hL (.inr (hd 20 rfl))
            have hnx := fun W' h => hG.next (W' := W') 6 23 (by decide) rfl hL (.inr (hd 20 rfl)) (by decide) h
            obtain ⟨vq, hwq, hoq, htq⟩ := hst
            have hlq := HLP.out 6
            have hcall := row_calls w2.heap.size vq _ la ls.length lc ls W hwq hlc hlm (by omega) (HRW.out W htq) (HDJ.out vq hoq) HLS.out (by omega)
            have HCALL := Lib.hid hcall
            have HNX := Lib.hid hnx
            have HWQ := Lib.hid hwq
            have HOQ := Lib.hid hoq
            have HTQ := Lib.hid htq
            clear hcall hnx hwq hoq htq hlq
            clear hd hcl hY
            simp only [h20, h22] at hK
            go_simp
            refine HCALL.out.mono ?_
            rintro e W' ⟨rfl, hwent⟩
            refine hK _ _ rfl (HNX.out W' ?_) (fun j _ h => Y7_keep (fun u hu => hu.keep HWQ.out hwent.turns) j _ h)
            have hfin := Went.next HOQ.out HTQ.out hwent
            rwa [flat_next bs (l := parts kd x is s ls) (q := 6) rfl] at hfin
          · clear hd hcl hY
            go_simp
            exact hK _ _ rfl (hG.same 24 rfl (fun _ h => h)) (fun _ _ h => h)
          · have h24 : y 24 = _ := hY 24 (hd 24 rfl)
            have hcell := HC3.out W hG
            clear hd hcl hY
            simp only [h24] at hK
            go_simp
            exact hK _ _ rfl (hG.same 25 rfl (fun _ h => h)) (fun _ _ h => h)
          · have h25 : y 25 = _ := hY 25 (hd 25 rfl)
            obtain ⟨u, w1, hcv, hfz, htz⟩ := conv_frz W s
            clear hd hcl hY
            simp only [h25] at hK
            go_simp
            exact hK u w1 hfz (hG.same 26 rfl (fun m h => Went.then_still h htz)) (fun j _ h => Y7_keep (fun u hu => hu.still htz) j _ h)
          · have h23 : y 23 = _ := hY 23 (hd 23 rfl)
            have hst := hG.at_ 7 (by decide) hL (.inr (hd 23 rfl))
            have hnx := fun W' h => hG.next (W' := W') 7 27 (by decide) rfl hL (.inr (hd 23 rfl)) (by decide) h
            have hfz : Frz W (y 26) _ := hY 26 (hd 26 rfl)
            obtain ⟨vq, hwq, hoq, htq⟩ := hst
            have hlq := HLP.out 7
            have hcall := raw_calls w2.heap.size vq _ _ s.data.toList W hwq hfz.1 (by rw [bytes_length]; omega)
            have HCALL := Lib.hid hcall
            have HNX := Lib.hid hnx
            have HWQ := Lib.hid hwq
            have HOQ := Lib.hid hoq
            have HTQ := Lib.hid htq
            clear hcall hnx hwq hoq htq hlq
            clear hd hcl hY
            simp only [h23] at hK
            go_simp
            refine HCALL.out.mono ?_
            rintro e W' ⟨rfl, hwent⟩
            refine hK _ _ rfl (HNX.out W' ?_) (fun j _ h => Y7_keep (fun u hu => hu.keep HWQ.out hwent.turns) j _ h)
            have hfin := Went.next HOQ.out HTQ.out hwent
            rwa [flat_next bs (l := parts kd x is s ls) (q := 7) rfl] at hfin
        case fin7 =>
          intro L y W hall hG hY
          obtain ⟨m, hm, hst, hr⟩ := hG
          have hm8 : m = 8 := by
            have h7 := hr 7 (by decide)
            have h27 : L 27 = true := hall 27 (by decide)
            rw [show [3, 7, 11, 14, 17, 20, 23, 27].getD 7 0 = 27 from rfl, h27] at h7
            have : 7 < m := by simpa using h7.symm
            have h8 : m ≤ 8 := hm
            omega
          subst hm8
          have HFS := Lib.hid hst
          clear hst hr hm hY hall
          obtain ⟨v8, hv8, ho8, ht8⟩ := HFS.out
          have HV8 : Hid (Wtr W w2.heap.size v8 bn) := by
            show Wtr W w2.heap.size v8 bn
            rw [HSN.out]
            exact hv8
          have HO8 : Hid (∀ j, v8.ownBlock = some j → w.heap.size ≤ j) := fun j hj => by
            rcases ho8 with h8 | ⟨i, hi, hil⟩
            · exact HVO.out j (h8 ▸ hj)
            · rw [hi] at hj; injection hj with hj; have := HTA.out.size; omega
          have HT8 : Hid (Turns (fun _ => False) w W) := (HTR.out.still HTA.out).next ht8 (fun i hi hs => by
            rcases hs with hs | hs
            · omega
            · have := HVO.out i hs; omega)
          clear hv8 ho8 ht8 HFS HC0 HC1 HC2 HC3 HC4 HX0 HTG HG0 HLP HLS HRW HDJ HVO HTR HTA HWA HSN c0 c1 c2 c3 c4 c5 c6 c7
          go_wp2
          go_roundg (n - (k + 1))
          case measure => omega
          case rel => exact ⟨k + 1, v8, by omega, rfl, by go_num, by rw [HBN.out]; exact HV8.out, HO8.out, HT8.out⟩
      · obtain rfl : k = n := by omega
        have HWT : Hid (Wtr wr w2.heap.size v (backB its)) := by
          show Wtr wr w2.heap.size v (backB its)
          rw [show its.take k = its by rw [HN.out, List.take_length]] at hwt
          exact hwt
        have hbl : (backB its).length ≤ 1099511627776 := by have h1 := backB_length its HA.out; have := HN.out; omega
        have HBL := Lib.hid hbl
        have HTR := Lib.hid htr
        clear hwt hvo htr hbl
        generalize hbe : backB its = bb at *
        have HBE := Lib.hid hbe
        clear hbe
        go_wp2_with fail
        with_reducible refine (bytes_calls w2.heap.size v bb wr HWT.out HBL.out).mono ?_
        rintro e w6 ⟨v6, rfl, ho6, _, t6⟩
        have HRD6 := Lib.hid (Rd.of_own ho6)
        have HT6 := Lib.hid (HTR.out.still t6)
        obtain ⟨A6, c6, rfl⟩ := owns_shape ho6
        clear ho6 t6 HWT HTR
        go_wp2_with fail
        with_reducible refine (of_calls _ bb w6 HRD6.out HBL.out).mono ?_
        rintro e w7 ⟨R, hR6, rfl, hr7, t7⟩
        have hR : w.heap.size ≤ R := Nat.le_trans HT6.out.size hR6
        have HT7 := Lib.hid (HT6.out.still t7)
        have HR7 := Lib.hid hr7
        clear hr7 t7 HRD6 HT6
        go_wp2
        go_loopg [59] k (fun gk i wr => ∃ j : Nat, j ≤ k ∧ gk = k - j ∧ i = .int .i64 j ∧ Rdr wr R ⟨backB (its.drop j), 0⟩ ∧ Turns (fun _ => False) w wr)
        case atStart => exact ⟨0, Nat.zero_le _, rfl, rfl, by rw [List.drop_zero, HBE.out]; exact HR7.out, HT7.out⟩
        case round =>
          obtain ⟨j, hj, rfl, rfl, hrr, htr⟩ := hrel
          clear HR7 HT7 HBE HBL
          by_cases hlt : j < k
          · have k1 : j < its.length := by have := HN.out; omega
            obtain ⟨b, off, t, rfl, hb, hcl, hrs, hs1, hs2, hs3, hit⟩ := (HI.out.still htr).at_ j k1
            have htm : t ∈ its := List.mem_of_getElem? hit
            have hok : itOk t = true := List.all_eq_true.1 HA.out t htm
            have hwft := HWF.out t htm
            have hrsl := (HI.out.2 t htm).1.lt
            have hcn := backB_cons hit
            have hlen : (backB (its.drop j)).length ≤ 1099511627776 := by
              have h0 : (its.drop j).all itOk = true := by
                rw [List.all_eq_true]
                exact fun u hu => List.all_eq_true.1 HA.out u (List.mem_of_mem_drop hu)
              have h1 := backB_length _ h0
              have h2 : (its.drop j).length ≤ its.length := by rw [List.length_drop]; omega
              have := HN.out
              omega
            have c0 : wr.cell? ⟨b, off + j * 8, none⟩ = _ := hcl 0 _ rfl
            have c1 := hcl 1 _ rfl
            have c2 := hcl 2 _ rfl
            have c3 := hcl 3 _ rfl
            have c4 := hcl 4 _ rfl
            have c5 := hcl 5 _ rfl
            have c6 := hcl 6 _ rfl
            have c7 := hcl 7 _ rfl
            obtain ⟨kind, xi, is, s, la, ls, lc, mo, lo, ee⟩ := t
            obtain ⟨k0, kb, x0, xb, hlc, hlm, _⟩ := hwft
            dsimp only at *
            obtain ⟨kd, rfl⟩ := Int.eq_ofNat_of_zero_le k0
            obtain ⟨x, rfl⟩ := Int.eq_ofNat_of_zero_le x0
            simp only [itOk, Bool.and_eq_true, decide_eq_true_eq, List.all_eq_true] at hok
            obtain ⟨⟨ho1, ho2⟩, ho3⟩ := hok
            generalize hrest : backB (its.drop (j + 1)) = rest at *
            have hcn' : backB (its.drop j) = left kd x is s ls 0 rest := hcn
            rw [hcn'] at hrr hlen
            have HREST := Lib.hid hrest
            clear hrest hcn' hcn hit htm k1 hcl hs1 hs2 hs3 hb
            obtain ⟨wa, hwa⟩ : ∃ wa, wa = wr.alloc (.cells #[.int .u8 kd, .int .u64 x, .bool is, .string s, .slice la ls.length lc, .int .i64 mo, .int .i64 lo, .int .i64 ee] 27) := ⟨_, rfl⟩
            have hta : Turns (fun _ => False) wr wa := by rw [hwa]; exact (Turns.refl _ _).alloc _
            have hbx : wa.heap[wr.heap.size]? = some (.cells #[.int .u8 kd, .int .u64 x, .bool is, .string s, .slice la ls.length lc, .int .i64 mo, .int .i64 lo, .int .i64 ee] 27 (0, 0)) := by rw [hwa]; exact heap_alloc_new wr _
            have hRl : R < wr.heap.size := hrr.lt
            have HX0 : Hid (∀ {L : Nat → Bool} W, SeqG [1, 7, 15, 23, 30, 37, 44, 55] (fun m W => Rdr W R ⟨left kd x is s ls m rest, 0⟩ ∧ Turns (fun i => i = R) wa W) L W → W.heap[wr.heap.size]? = some (.cells #[.int .u8 kd, .int .u64 x, .bool is, .string s, .slice la ls.length lc, .int .i64 mo, .int .i64 lo, .int .i64 ee] 27 (0, 0))) := fun W hG => by
              obtain ⟨m, _, hs, _⟩ := hG
              exact (hs.2.block wr.heap.size (by rw [hwa]; simp) (by omega)).trans hbx
            have HC0 : Hid (∀ {L : Nat → Bool} W, SeqG [1, 7, 15, 23, 30, 37, 44, 55] (fun m W => Rdr W R ⟨left kd x is s ls m rest, 0⟩ ∧ Turns (fun i => i = R) wa W) L W → W.cell? ⟨wr.heap.size, 0, none⟩ = some (.int .u8 kd)) := fun W hG => by rw [cell_of_row W wr.heap.size 0 _ _ (0, 0) (HX0.out W hG)]; rfl
            have HC1 : Hid (∀ {L : Nat → Bool} W, SeqG [1, 7, 15, 23, 30, 37, 44, 55] (fun m W => Rdr W R ⟨left kd x is s ls m rest, 0⟩ ∧ Turns (fun i => i = R) wa W) L W → W.cell? ⟨wr.heap.size, 1, none⟩ = some (.int .u64 x)) := fun W hG => by rw [cell_of_row W wr.heap.size 1 _ _ (0, 0) (HX0.out W hG)]; rfl
            have HC2 : Hid (∀ {L : Nat → Bool} W, SeqG [1, 7, 15, 23, 30, 37, 44, 55] (fun m W => Rdr W R ⟨left kd x is s ls m rest, 0⟩ ∧ Turns (fun i => i = R) wa W) L W → W.cell? ⟨wr.heap.size, 2, none⟩ = some (.bool is)) := fun W hG => by rw [cell_of_row W wr.heap.size 2 _ _ (0, 0) (HX0.out W hG)]; rfl
            have HC3 : Hid (∀ {L : Nat → Bool} W, SeqG [1, 7, 15, 23, 30, 37, 44, 55] (fun m W => Rdr W R ⟨left kd x is s ls m rest, 0⟩ ∧ Turns (fun i => i = R) wa W) L W → W.cell? ⟨wr.heap.size, 3, none⟩ = some (.string s)) := fun W hG => by rw [cell_of_row W wr.heap.size 3 _ _ (0, 0) (HX0.out W hG)]; rfl
            have HC4 : Hid (∀ {L : Nat → Bool} W, SeqG [1, 7, 15, 23, 30, 37, 44, 55] (fun m W => Rdr W R ⟨left kd x is s ls m rest, 0⟩ ∧ Turns (fun i => i = R) wa W) L W → W.cell? ⟨wr.heap.size, 4, none⟩ = some (.slice la ls.length lc)) := fun W hG => by rw [cell_of_row W wr.heap.size 4 _ _ (0, 0) (HX0.out W hG)]; rfl
            have HG0 : Hid (SeqG [1, 7, 15, 23, 30, 37, 44, 55] (fun m W => Rdr W R ⟨left kd x is s ls m rest, 0⟩ ∧ Turns (fun i => i = R) wa W) (fun _ => false) wa.drew) := SeqG.start ⟨(hrr.still hta).still (Turns.refl _ _).drew, (Turns.refl _ _).drew⟩
            have hkd : kd < 256 := by omega
            have hxb : x < 18446744073709551616 := by omega
            have hll : ∀ m, (left kd x is s ls m rest).length ≤ 1099511627776 := fun m => Nat.le_trans (left_length m) hlen
            have HR1 : Hid (∀ W, Rdr W R ⟨left kd x is s ls 0 rest, 0⟩ → _) := fun W hW => back1 hW (hll 0) hkd
            have HR2 : Hid (∀ W, Rdr W R ⟨left kd x is s ls 1 rest, 0⟩ → _) := fun W hW => back2 hW (hll 1)
            have HR3 : Hid (∀ W, Rdr W R ⟨left kd x is s ls 2 rest, 0⟩ → _) := fun W hW => back3 hW (hll 2)
            have HR4 : Hid (∀ W, Rdr W R ⟨left kd x is s ls 3 rest, 0⟩ → _) := fun W hW => back4 hW (hll 3) hxb
            have HR5 : Hid (∀ W, Rdr W R ⟨left kd x is s ls 4 rest, 0⟩ → _) := fun W hW => back5 hW (hll 4)
            have HR6 : Hid (∀ W, Rdr W R ⟨left kd x is s ls 5 rest, 0⟩ → _) := fun W hW => back6 hW (hll 5) ho1
            have HR7 : Hid (∀ W, Rdr W R ⟨left kd x is s ls 6 rest, 0⟩ → _) := fun W hW => back7 hW (hll 6) ho2 ho3
            have HR8 : Hid (∀ W, Rdr W R ⟨left kd x is s ls 7 rest, 0⟩ → _) := fun W hW => back8 hW (hll 7) ho1
            have HRS : Hid (∀ {L : Nat → Bool} W, SeqG [1, 7, 15, 23, 30, 37, 44, 55] (fun m W => Rdr W R ⟨left kd x is s ls m rest, 0⟩ ∧ Turns (fun i => i = R) wa W) L W → ∀ (A' : Option Addr) (c' : Nat), RdS W A' ls → Calls Try.prog 12 #[.slice A' ls.length c', .slice la ls.length lc] W (Told true W)) := fun W hG A' c' hA' => by
              obtain ⟨m, _, hs, _⟩ := hG
              have h2 := (hrs.still hta).turns hs.2 (fun hne a ha he => by have := hrsl hne a ha; omega)
              have := same_calls A' la c' lc ls ls W hA' h2 (by omega)
              rwa [show sameB ls ls = true by simp [sameB]] at this
            have HCS : Hid (∀ (W : World) (u : Value), Rd W u s.data.toList → (convert 30 9 u).run Try.prog W = .ok (.string s) W) := fun W u hu => by
              have := hu.string (P := Try.prog) (src := 30) (dst := 9) Try.underlying30 Try.underlying5 Try.underlying9
              rwa [bytes_back] at this
            have hc16 : IntKind.u16.wrap (x : Int) = ((x % 65536 : Nat) : Int) := by rw [IntKind.wrap_u16]; omega
            have hc32 : IntKind.u32.wrap (x : Int) = ((x % 4294967296 : Nat) : Int) := by rw [IntKind.wrap_u32']; omega
            have HTR := Lib.hid htr
            have HTA := Lib.hid hta
            have HWA := Lib.hid hwa
            have HXB := Lib.hid hxb
            clear hlen hrs hrsl hrr htr hta hbx ho3 hwa x0 xb k0 kb hll hxb
            go_upto_region 13 with fail
            rw [← HWA.out]
            go_cut [123] (fun r wc => r = .bool false ∧ Rdr wc R ⟨rest, 0⟩ ∧ Turns (fun _ => False) w wc)
            case first =>
              refine wp_region_st (by kernel_rfl) (Y13 R wr.heap.size kd x is s la ls lc) (SeqG [1, 7, 15, 23, 30, 37, 44, 55] (fun m W => Rdr W R ⟨left kd x is s ls m rest, 0⟩ ∧ Turns (fun i => i = R) wa W)) ?F13 ?hF13 (by kernel_rfl) (by kernel_rfl) HG0.out ?step13 ?fin13
              case hF13 =>
                intro x
                simp only [List.map_cons, List.map_nil, putL, Act.put, List.setIfInBounds_toArray, List.set_cons_zero, List.set_cons_succ, Nat.zero_add, Nat.reduceAdd]
                exact rfl
              case step13 =>
                refine ⟨?_, ?_, ?_, ?_, ?_, ?_, ?_, ?_, ?_, ?_, ?_, ?_, ?_, ?_, ?_, ?_, ?_, ?_, ?_, ?_, ?_, ?_, ?_, ?_, ?_, ?_, ?_, ?_, ?_, ?_, ?_, ?_, ?_, ?_, ?_, ?_, ?_, ?_, ?_, ?_, ?_, ?_, ?_, ?_, ?_, ?_, ?_, ?_, ?_, ?_, ?_, ?_, ?_, ?_, ?_, ?_, ?_, ?_, ?_, ?_, ?_, trivial⟩
                all_goals intro L y W hL hd hcl hG hY K hK
                · clear hd hcl hY
                  go_simp
                  exact hK _ _ rfl (hG.same 0 rfl (fun _ h => h)) (fun _ _ h => h)
                · have h0 : y 0 = _ := hY 0 (hd 0 rfl)
                  have hst := hG.at_ 0 (by decide) hL (.inl rfl)
                  have hnx := fun W' h => hG.next (W' := W') 0 1 (by decide) rfl hL (.inl rfl) (by decide) h
                  have hcall := HR1.out W hst.1
                  have HCALL := Lib.hid hcall
                  have HNX := Lib.hid hnx
                  have HST := Lib.hid hst.2
                  clear hcall hnx hst
                  clear hd hcl hY
                  simp only [h0] at hK
                  go_simp
                  refine HCALL.out.mono ?_
                  rintro e W' ⟨rfl, hdid⟩
                  exact hK _ _ rfl (HNX.out W' ⟨hdid.rdr, HST.out.next hdid.2 (fun _ _ h => h)⟩) (fun j _ h => Y13_keep hdid.2 j _ h)
                · clear hd hcl hY
                  go_simp
                  exact hK _ _ rfl (hG.same 2 rfl (fun _ h => h)) (fun _ _ h => h)
                · have h2 : y 2 = _ := hY 2 (hd 2 rfl)
                  have hcell := HC0.out W hG
                  clear hd hcl hY
                  simp only [h2] at hK
                  go_simp
                  exact hK _ _ rfl (hG.same 3 rfl (fun _ h => h)) (fun _ _ h => h)
                · have h1 : y 1 = _ := hY 1 (hd 1 rfl)
                  have h3 : y 3 = _ := hY 3 (hd 3 rfl)
                  clear hd hcl hY
                  simp only [h1, h3] at hK
                  go_simp
                  exact hK _ _ rfl (hG.same 4 rfl (fun _ h => h)) (fun _ _ h => h)
                · have h4 : y 4 = _ := hY 4 (hd 4 rfl)
                  clear hd hcl hY
                  simp only [h4] at hK
                  go_simp
                  exact hK _ _ rfl (hG.same 5 rfl (fun _ h => h)) (fun _ _ h => h)
                · have h5 : y 5 = _ := hY 5 (hd 5 rfl)
                  clear hd hcl hY
                  simp only [h5] at hK
                  go_simp
                  exact hK _ _ rfl (hG.same 6 rfl (fun _ h => h)) (fun _ _ h => h)
                · have h5 : y 5 = _ := hY 5 (hd 5 rfl)
                  have h6 : y 6 = _ := hY 6 (hd 6 rfl)
                  have hst := hG.at_ 1 (by decide) hL (.inr (hcl 4 _ rfl (hcl 5 _ rfl (hd 5 rfl) 4 rfl) 1 rfl))
                  have hnx := fun W' h => hG.next (W' := W') 1 7 (by decide) rfl hL (.inr (hcl 4 _ rfl (hcl 5 _ rfl (hd 5 rfl) 4 rfl) 1 rfl)) (by decide) h
                  have hcall := HR2.out W hst.1
                  have HCALL := Lib.hid hcall
                  have HNX := Lib.hid hnx
                  have HST := Lib.hid hst.2
                  clear hcall hnx hst
                  clear hd hcl hY
                  simp only [h5, h6] at hK
                  go_simp
                  refine HCALL.out.mono ?_
                  rintro e W' ⟨rfl, hdid⟩
                  exact hK _ _ rfl (HNX.out W' ⟨hdid.rdr, HST.out.next hdid.2 (fun _ _ h => h)⟩) (fun j _ h => Y13_keep hdid.2 j _ h)
                · have h5 : y 5 = _ := hY 5 (hd 5 rfl)
                  clear hd hcl hY
                  simp only [h5] at hK
                  go_simp
                  exact hK _ _ rfl (hG.same 8 rfl (fun _ h => h)) (fun _ _ h => h)
                · have h5 : y 5 = _ := hY 5 (hd 5 rfl)
                  have h8 : y 8 = _ := hY 8 (hd 8 rfl)
                  have hcell := HC1.out W hG
                  clear hd hcl hY
                  simp only [h5, h8] at hK
                  go_simp
                  exact hK _ _ rfl (hG.same 9 rfl (fun _ h => h)) (fun _ _ h => h)
                · have h5 : y 5 = _ := hY 5 (hd 5 rfl)
                  have h9 : y 9 = _ := hY 9 (hd 9 rfl)
                  clear hd hcl hY
                  simp only [h5, h9] at hK
                  go_simp
                  exact hK _ _ rfl (hG.same 10 rfl (fun _ h => h)) (fun _ _ h => h)
                · have h5 : y 5 = _ := hY 5 (hd 5 rfl)
                  have h7 : y 7 = _ := hY 7 (hd 7 rfl)
                  have h10 : y 10 = _ := hY 10 (hd 10 rfl)
                  clear hd hcl hY
                  simp only [h5, h7, h10] at hK
                  go_simp
                  exact hK _ _ rfl (hG.same 11 rfl (fun _ h => h)) (fun _ _ h => h)
                · have h5 : y 5 = _ := hY 5 (hd 5 rfl)
                  have h11 : y 11 = _ := hY 11 (hd 11 rfl)
                  clear hd hcl hY
                  simp only [h5, h11] at hK
                  go_simp
                  exact hK _ _ rfl (hG.same 12 rfl (fun _ h => h)) (fun _ _ h => h)
                · have h12 : y 12 = _ := hY 12 (hd 12 rfl)
                  clear hd hcl hY
                  simp only [h12] at hK
                  go_simp
                  exact hK _ _ rfl (hG.same 13 rfl (fun _ h => h)) (fun _ _ h => h)
                · have h13 : y 13 = _ := hY 13 (hd 13 rfl)
                  clear hd hcl hY
                  simp only [h13] at hK
                  go_simp
                  exact hK _ _ rfl (hG.same 14 rfl (fun _ h => h)) (fun _ _ h => h)
                · have h13 : y 13 = _ := hY 13 (hd 13 rfl)
                  have h14 : y 14 = _ := hY 14 (hd 14 rfl)
                  have hst := hG.at_ 2 (by decide) hL (.inr (hcl 11 _ rfl (hcl 12 _ rfl (hcl 13 _ rfl (hd 13 rfl) 12 rfl) 11 rfl) 7 rfl))
                  have hnx := fun W' h => hG.next (W' := W') 2 15 (by decide) rfl hL (.inr (hcl 11 _ rfl (hcl 12 _ rfl (hcl 13 _ rfl (hd 13 rfl) 12 rfl) 11 rfl) 7 rfl)) (by decide) h
                  have hcall := HR3.out W hst.1
                  have HCALL := Lib.hid hcall
                  have HNX := Lib.hid hnx
                  have HST := Lib.hid hst.2
                  clear hcall hnx hst
                  clear hd hcl hY
                  simp only [h13, h14] at hK
                  go_simp
                  refine HCALL.out.mono ?_
                  rintro e W' ⟨rfl, hdid⟩
                  exact hK _ _ rfl (HNX.out W' ⟨hdid.rdr, HST.out.next hdid.2 (fun _ _ h => h)⟩) (fun j _ h => Y13_keep hdid.2 j _ h)
                · have h13 : y 13 = _ := hY 13 (hd 13 rfl)
                  clear hd hcl hY
                  simp only [h13] at hK
                  go_simp
                  exact hK _ _ rfl (hG.same 16 rfl (fun _ h => h)) (fun _ _ h => h)
                · have h13 : y 13 = _ := hY 13 (hd 13 rfl)
                  have h16 : y 16 = _ := hY 16 (hd 16 rfl)
                  have hcell := HC1.out W hG
                  clear hd hcl hY
                  simp only [h13, h16] at hK
                  go_simp
                  exact hK _ _ rfl (hG.same 17 rfl (fun _ h => h)) (fun _ _ h => h)
                · have h13 : y 13 = _ := hY 13 (hd 13 rfl)
                  have h17 : y 17 = _ := hY 17 (hd 17 rfl)
                  clear hd hcl hY
                  simp only [h13, h17] at hK
                  go_simp
                  exact hK _ _ rfl (hG.same 18 rfl (fun _ h => h)) (fun _ _ h => h)
                · have h13 : y 13 = _ := hY 13 (hd 13 rfl)
                  have h15 : y 15 = _ := hY 15 (hd 15 rfl)
                  have h18 : y 18 = _ := hY 18 (hd 18 rfl)
                  clear hd hcl hY
                  simp only [h13, h15, h18] at hK
                  go_simp
                  exact hK _ _ rfl (hG.same 19 rfl (fun _ h => h)) (fun _ _ h => h)
                · have h13 : y 13 = _ := hY 13 (hd 13 rfl)
                  have h19 : y 19 = _ := hY 19 (hd 19 rfl)
                  clear hd hcl hY
                  simp only [h13, h19] at hK
                  go_simp
                  exact hK _ _ rfl (hG.same 20 rfl (fun _ h => h)) (fun _ _ h => h)
                · have h20 : y 20 = _ := hY 20 (hd 20 rfl)
                  clear hd hcl hY
                  simp only [h20] at hK
                  go_simp
                  exact hK _ _ rfl (hG.same 21 rfl (fun _ h => h)) (fun _ _ h => h)
                · have h21 : y 21 = _ := hY 21 (hd 21 rfl)
                  clear hd hcl hY
                  simp only [h21] at hK
                  go_simp
                  exact hK _ _ rfl (hG.same 22 rfl (fun _ h => h)) (fun _ _ h => h)
                · have h21 : y 21 = _ := hY 21 (hd 21 rfl)
                  have h22 : y 22 = _ := hY 22 (hd 22 rfl)
                  have hst := hG.at_ 3 (by decide) hL (.inr (hcl 19 _ rfl (hcl 20 _ rfl (hcl 21 _ rfl (hd 21 rfl) 20 rfl) 19 rfl) 15 rfl))
                  have hnx := fun W' h => hG.next (W' := W') 3 23 (by decide) rfl hL (.inr (hcl 19 _ rfl (hcl 20 _ rfl (hcl 21 _ rfl (hd 21 rfl) 20 rfl) 19 rfl) 15 rfl)) (by decide) h
                  have hcall := HR4.out W hst.1
                  have HCALL := Lib.hid hcall
                  have HNX := Lib.hid hnx
                  have HST := Lib.hid hst.2
                  clear hcall hnx hst
                  clear hd hcl hY
                  simp only [h21, h22] at hK
                  go_simp
                  refine HCALL.out.mono ?_
                  rintro e W' ⟨rfl, hdid⟩
                  exact hK _ _ rfl (HNX.out W' ⟨hdid.rdr, HST.out.next hdid.2 (fun _ _ h => h)⟩) (fun j _ h => Y13_keep hdid.2 j _ h)
                · have h21 : y 21 = _ := hY 21 (hd 21 rfl)
                  clear hd hcl hY
                  simp only [h21] at hK
                  go_simp
                  exact hK _ _ rfl (hG.same 24 rfl (fun _ h => h)) (fun _ _ h => h)
                · have h21 : y 21 = _ := hY 21 (hd 21 rfl)
                  have h24 : y 24 = _ := hY 24 (hd 24 rfl)
                  have hcell := HC1.out W hG
                  clear hd hcl hY
                  simp only [h21, h24] at hK
                  go_simp
                  exact hK _ _ rfl (hG.same 25 rfl (fun _ h => h)) (fun _ _ h => h)
                · have h21 : y 21 = _ := hY 21 (hd 21 rfl)
                  have h23 : y 23 = _ := hY 23 (hd 23 rfl)
                  have h25 : y 25 = _ := hY 25 (hd 25 rfl)
                  clear hd hcl hY
                  simp only [h21, h23, h25] at hK
                  go_simp
                  exact hK _ _ rfl (hG.same 26 rfl (fun _ h => h)) (fun _ _ h => h)
                · have h21 : y 21 = _ := hY 21 (hd 21 rfl)
                  have h26 : y 26 = _ := hY 26 (hd 26 rfl)
                  clear hd hcl hY
                  simp only [h21, h26] at hK
                  go_simp
                  exact hK _ _ rfl (hG.same 27 rfl (fun _ h => h)) (fun _ _ h => h)
                · have h27 : y 27 = _ := hY 27 (hd 27 rfl)
                  clear hd hcl hY
                  simp only [h27] at hK
                  go_simp
                  exact hK _ _ rfl (hG.same 28 rfl (fun _ h => h)) (fun _ _ h => h)
                · have h28 : y 28 = _ := hY 28 (hd 28 rfl)
                  clear hd hcl hY
                  simp only [h28] at hK
                  go_simp
                  exact hK _ _ rfl (hG.same 29 rfl (fun _ h => h)) (fun _ _ h => h)
                · have h28 : y 28 = _ := hY 28 (hd 28 rfl)
                  have h29 : y 29 = _ := hY 29 (hd 29 rfl)
                  have hst := hG.at_ 4 (by decide) hL (.inr (hcl 26 _ rfl (hcl 27 _ rfl (hcl 28 _ rfl (hd 28 rfl) 27 rfl) 26 rfl) 23 rfl))
                  have hnx := fun W' h => hG.next (W' := W') 4 30 (by decide) rfl hL (.inr (hcl 26 _ rfl (hcl 27 _ rfl (hcl 28 _ rfl (hd 28 rfl) 27 rfl) 26 rfl) 23 rfl)) (by decide) h
                  have hcall := HR5.out W hst.1
                  have HCALL := Lib.hid hcall
                  have HNX := Lib.hid hnx
                  have HST := Lib.hid hst.2
                  clear hcall hnx hst
                  clear hd hcl hY
                  simp only [h28, h29] at hK
                  go_simp
                  refine HCALL.out.mono ?_
                  rintro e W' ⟨rfl, hdid⟩
                  exact hK _ _ rfl (HNX.out W' ⟨hdid.rdr, HST.out.next hdid.2 (fun _ _ h => h)⟩) (fun j _ h => Y13_keep hdid.2 j _ h)
                · have h28 : y 28 = _ := hY 28 (hd 28 rfl)
                  clear hd hcl hY
                  simp only [h28] at hK
                  go_simp
                  exact hK _ _ rfl (hG.same 31 rfl (fun _ h => h)) (fun _ _ h => h)
                · have h28 : y 28 = _ := hY 28 (hd 28 rfl)
                  have h31 : y 31 = _ := hY 31 (hd 31 rfl)
                  have hcell := HC2.out W hG
                  clear hd hcl hY
                  simp only [h28, h31] at hK
                  go_simp
                  exact hK _ _ rfl (hG.same 32 rfl (fun _ h => h)) (fun _ _ h => h)
                · have h28 : y 28 = _ := hY 28 (hd 28 rfl)
                  have h30 : y 30 = _ := hY 30 (hd 30 rfl)
                  have h32 : y 32 = _ := hY 32 (hd 32 rfl)
                  clear hd hcl hY
                  simp only [h28, h30, h32] at hK
                  go_simp
                  exact hK _ _ rfl (hG.same 33 rfl (fun _ h => h)) (fun _ _ h => h)
                · have h28 : y 28 = _ := hY 28 (hd 28 rfl)
                  have h33 : y 33 = _ := hY 33 (hd 33 rfl)
                  clear hd hcl hY
                  simp only [h28, h33] at hK
                  go_simp
                  exact hK _ _ rfl (hG.same 34 rfl (fun _ h => h)) (fun _ _ h => h)
                · have h34 : y 34 = _ := hY 34 (hd 34 rfl)
                  clear hd hcl hY
                  simp only [h34] at hK
                  go_simp
                  exact hK _ _ rfl (hG.same 35 rfl (fun _ h => h)) (fun _ _ h => h)
                · have h35 : y 35 = _ := hY 35 (hd 35 rfl)
                  clear hd hcl hY
                  simp only [h35] at hK
                  go_simp
                  exact hK _ _ rfl (hG.same 36 rfl (fun _ h => h)) (fun _ _ h => h)
                · have h35 : y 35 = _ := hY 35 (hd 35 rfl)
                  have h36 : y 36 = _ := hY 36 (hd 36 rfl)
                  have hst := hG.at_ 5 (by decide) hL (.inr (hcl 33 _ rfl (hcl 34 _ rfl (hcl 35 _ rfl (hd 35 rfl) 34 rfl) 33 rfl) 30 rfl))
                  have hnx := fun W' h => hG.next (W' := W') 5 37 (by decide) rfl hL (.inr (hcl 33 _ rfl (hcl 34 _ rfl (hcl 35 _ rfl (hd 35 rfl) 34 rfl) 33 rfl) 30 rfl)) (by decide) h
                  have hcall := HR6.out W hst.1
                  have HCALL := Lib.hid hcall
                  have HNX := Lib.hid hnx
                  have HST := Lib.hid hst.2
                  clear hcall hnx hst
                  clear hd hcl hY
                  simp only [h35, h36] at hK
                  go_simp
                  refine HCALL.out.mono ?_
                  rintro e W' ⟨rfl, hdid⟩
                  exact hK _ _ rfl (HNX.out W' ⟨hdid.rdr, HST.out.next hdid.2 (fun _ _ h => h)⟩) (fun j _ h => Y13_keep hdid.2 j _ h)
                · have h35 : y 35 = _ := hY 35 (hd 35 rfl)
                  clear hd hcl hY
                  simp only [h35] at hK
                  go_simp
                  exact hK _ _ rfl (hG.same 38 rfl (fun _ h => h)) (fun _ _ h => h)
                · have h35 : y 35 = _ := hY 35 (hd 35 rfl)
                  have h38 : y 38 = _ := hY 38 (hd 38 rfl)
                  have hcell := HC3.out W hG
                  clear hd hcl hY
                  simp only [h35, h38] at hK
                  go_simp
                  exact hK _ _ rfl (hG.same 39 rfl (fun _ h => h)) (fun _ _ h => h)
                · have h35 : y 35 = _ := hY 35 (hd 35 rfl)
                  have h37 : y 37 = _ := hY 37 (hd 37 rfl)
                  have h39 : y 39 = _ := hY 39 (hd 39 rfl)
                  clear hd hcl hY
                  simp only [h35, h37, h39] at hK
                  go_simp
                  exact hK _ _ rfl (hG.same 40 rfl (fun _ h => h)) (fun _ _ h => h)
                · have h35 : y 35 = _ := hY 35 (hd 35 rfl)
                  have h40 : y 40 = _ := hY 40 (hd 40 rfl)
                  clear hd hcl hY
                  simp only [h35, h40] at hK
                  go_simp
                  exact hK _ _ rfl (hG.same 41 rfl (fun _ h => h)) (fun _ _ h => h)
                · have h41 : y 41 = _ := hY 41 (hd 41 rfl)
                  clear hd hcl hY
                  simp only [h41] at hK
                  go_simp
                  exact hK _ _ rfl (hG.same 42 rfl (fun _ h => h)) (fun _ _ h => h)
                · have h42 : y 42 = _ := hY 42 (hd 42 rfl)
                  clear hd hcl hY
                  simp only [h42] at hK
                  go_simp
                  exact hK _ _ rfl (hG.same 43 rfl (fun _ h => h)) (fun _ _ h => h)
                · have h42 : y 42 = _ := hY 42 (hd 42 rfl)
                  have h43 : y 43 = _ := hY 43 (hd 43 rfl)
                  have hst := hG.at_ 6 (by decide) hL (.inr (hcl 40 _ rfl (hcl 41 _ rfl (hcl 42 _ rfl (hd 42 rfl) 41 rfl) 40 rfl) 37 rfl))
                  have hnx := fun W' h => hG.next (W' := W') 6 44 (by decide) rfl hL (.inr (hcl 40 _ rfl (hcl 41 _ rfl (hcl 42 _ rfl (hd 42 rfl) 41 rfl) 40 rfl) 37 rfl)) (by decide) h
                  have hcall := HR7.out W hst.1
                  have HCALL := Lib.hid hcall
                  have HNX := Lib.hid hnx
                  have HST := Lib.hid hst.2
                  clear hcall hnx hst
                  clear hd hcl hY
                  simp only [h42, h43] at hK
                  go_simp
                  refine HCALL.out.mono ?_
                  rintro e W' ⟨A', c', rfl, hrs', hne', hdid⟩
                  exact hK _ _ ⟨A', c', rfl, hrs', hne'⟩ (HNX.out W' ⟨hdid.rdr, HST.out.next hdid.2 (fun _ _ h => h)⟩) (fun j _ h => Y13_keep hdid.2 j _ h)
                · have h42 : y 42 = _ := hY 42 (hd 42 rfl)
                  clear hd hcl hY
                  simp only [h42] at hK
                  go_simp
                  exact hK _ _ rfl (hG.same 45 rfl (fun _ h => h)) (fun _ _ h => h)
                · have h42 : y 42 = _ := hY 42 (hd 42 rfl)
                  have h45 : y 45 = _ := hY 45 (hd 45 rfl)
                  have hcell := HC4.out W hG
                  clear hd hcl hY
                  simp only [h42, h45] at hK
                  go_simp
                  exact hK _ _ rfl (hG.same 46 rfl (fun _ h => h)) (fun _ _ h => h)
                · have h42 : y 42 = _ := hY 42 (hd 42 rfl)
                  have h46 : y 46 = _ := hY 46 (hd 46 rfl)
                  obtain ⟨A', c', h44, hrs', _⟩ := hY 44 (hd 44 rfl)
                  have HSM := Lib.hid (HRS.out W hG A' c' hrs')
                  clear hrs'
                  clear hd hcl hY
                  simp only [h42, h46, h44] at hK
                  go_simp
                  refine HSM.out.mono ?_
                  rintro e W' ⟨rfl, ht'⟩
                  exact hK _ _ rfl (hG.same 47 rfl (fun m h => ⟨h.1.still ht', h.2.next ht' (fun _ _ f => f.elim)⟩)) (fun j _ h => Y13_keep (ht'.mono (fun _ _ f => f.elim)) j _ h)
                · have h42 : y 42 = _ := hY 42 (hd 42 rfl)
                  have h47 : y 47 = _ := hY 47 (hd 47 rfl)
                  clear hd hcl hY
                  simp only [h42, h47] at hK
                  go_simp
                  exact hK _ _ rfl (hG.same 48 rfl (fun _ h => h)) (fun _ _ h => h)
                · have h42 : y 42 = _ := hY 42 (hd 42 rfl)
                  have h48 : y 48 = _ := hY 48 (hd 48 rfl)
                  clear hd hcl hY
                  simp only [h42, h48] at hK
                  go_simp
                  exact hK _ _ rfl (hG.same 49 rfl (fun _ h => h)) (fun _ _ h => h)
                · have h49 : y 49 = _ := hY 49 (hd 49 rfl)
                  clear hd hcl hY
                  simp only [h49] at hK
                  go_simp
                  exact hK _ _ rfl (hG.same 50 rfl (fun _ h => h)) (fun _ _ h => h)
                · have h50 : y 50 = _ := hY 50 (hd 50 rfl)
                  clear hd hcl hY
                  simp only [h50] at hK
                  go_simp
                  exact hK _ _ rfl (hG.same 51 rfl (fun _ h => h)) (fun _ _ h => h)
                · have h50 : y 50 = _ := hY 50 (hd 50 rfl)
                  clear hd hcl hY
                  simp only [h50] at hK
                  go_simp
                  exact hK _ _ rfl (hG.same 52 rfl (fun _ h => h)) (fun _ _ h => h)
                · have h50 : y 50 = _ := hY 50 (hd 50 rfl)
                  have h52 : y 52 = _ := hY 52 (hd 52 rfl)
                  have hcell := HC3.out W hG
                  clear hd hcl hY
                  simp only [h50, h52] at hK
                  go_simp
                  exact hK _ _ rfl (hG.same 53 rfl (fun _ h => h)) (fun _ _ h => h)
                · have h50 : y 50 = _ := hY 50 (hd 50 rfl)
                  have h53 : y 53 = _ := hY 53 (hd 53 rfl)
                  clear hd hcl hY
                  simp only [h50, h53] at hK
                  go_simp
                  exact hK _ _ rfl (hG.same 54 rfl (fun _ h => h)) (fun _ _ h => h)
                · have h50 : y 50 = _ := hY 50 (hd 50 rfl)
                  have h51 : y 51 = _ := hY 51 (hd 51 rfl)
                  have h54 : y 54 = _ := hY 54 (hd 54 rfl)
                  have hst := hG.at_ 7 (by decide) hL (.inr (hcl 47 _ rfl (hcl 48 _ rfl (hcl 49 _ rfl (hcl 50 _ rfl (hd 50 rfl) 49 rfl) 48 rfl) 47 rfl) 44 rfl))
                  have hnx := fun W' h => hG.next (W' := W') 7 55 (by decide) rfl hL (.inr (hcl 47 _ rfl (hcl 48 _ rfl (hcl 49 _ rfl (hcl 50 _ rfl (hd 50 rfl) 49 rfl) 48 rfl) 47 rfl) 44 rfl)) (by decide) h
                  have hcall := HR8.out W hst.1
                  have HCALL := Lib.hid hcall
                  have HNX := Lib.hid hnx
                  have HST := Lib.hid hst.2
                  clear hcall hnx hst
                  clear hd hcl hY
                  simp only [h50, h51, h54] at hK
                  go_simp
                  refine HCALL.out.mono ?_
                  rintro e W' ⟨u', rfl, hrd', hnr', hdid⟩
                  exact hK _ _ ⟨hrd', hnr'⟩ (HNX.out W' ⟨hdid.rdr, HST.out.next hdid.2 (fun _ _ h => h)⟩) (fun j _ h => Y13_keep hdid.2 j _ h)
                · have h50 : y 50 = _ := hY 50 (hd 50 rfl)
                  have h55 := hY 55 (hd 55 rfl)
                  have hcs := HCS.out W _ h55.1
                  clear h55
                  clear hd hcl hY
                  simp only [h50] at hK
                  go_simp
                  exact hK _ _ rfl (hG.same 56 rfl (fun _ h => h)) (fun _ _ h => h)
                · have h50 : y 50 = _ := hY 50 (hd 50 rfl)
                  clear hd hcl hY
                  simp only [h50] at hK
                  go_simp
                  exact hK _ _ rfl (hG.same 57 rfl (fun _ h => h)) (fun _ _ h => h)
                · have h50 : y 50 = _ := hY 50 (hd 50 rfl)
                  have h57 : y 57 = _ := hY 57 (hd 57 rfl)
                  have hcell := HC3.out W hG
                  clear hd hcl hY
                  simp only [h50, h57] at hK
                  go_simp
                  exact hK _ _ rfl (hG.same 58 rfl (fun _ h => h)) (fun _ _ h => h)
                · have h50 : y 50 = _ := hY 50 (hd 50 rfl)
                  have h56 : y 56 = _ := hY 56 (hd 56 rfl)
                  have h58 : y 58 = _ := hY 58 (hd 58 rfl)
                  clear hd hcl hY
                  simp only [h50, h56, h58] at hK
                  go_simp
                  exact hK _ _ rfl (hG.same 59 rfl (fun _ h => h)) (fun _ _ h => h)
                · have h50 : y 50 = _ := hY 50 (hd 50 rfl)
                  have h59 : y 59 = _ := hY 59 (hd 59 rfl)
                  clear hd hcl hY
                  simp only [h50, h59] at hK
                  go_simp
                  exact hK _ _ rfl (hG.same 60 rfl (fun _ h => h)) (fun _ _ h => h)
              case fin13 =>
                intro L y W hall hG hY
                have h60 : y 60 = .bool false := hY 60 (by decide)
                obtain ⟨m, hm, hst, hr⟩ := hG
                have hm8 : m = 8 := by
                  have h7 := hr 7 (by decide)
                  have h55 : L 55 = true := hall 55 (by decide)
                  rw [show [1, 7, 15, 23, 30, 37, 44, 55].getD 7 0 = 55 from rfl, h55] at h7
                  have : 7 < m := by simpa using h7.symm
                  have h8 : m ≤ 8 := hm
                  omega
                subst hm8
                have HFS := Lib.hid hst
                clear hst hr hm hY hall
                have HE : Hid (Rdr W R ⟨rest, 0⟩) := HFS.out.1
                have HTF : Hid (Turns (fun _ => False) w W) := (HTR.out.still HTA.out).next HFS.out.2 (fun i hi hs => by omega)
                go_wp2_with fail
                go_meet
                case rel => exact ⟨h60, HE.out, HTF.out⟩
            case rest =>
              obtain ⟨rfl, hre, htf⟩ := hcut
              have HE := Lib.hid hre
              have HTF := Lib.hid htf
              clear hre htf
              go_wp2
              go_roundg (k - (j + 1))
              case measure => omega
              case rel => exact ⟨j + 1, by omega, rfl, by go_num, by rw [HREST.out]; exact HE.out, HTF.out⟩
          · obtain rfl : j = k := by omega
            have HE : Hid (Rdr wr R ⟨[], 0⟩) := by
              rw [show its.drop j = [] by rw [HN.out, List.drop_length]] at hrr
              exact hrr
            have HTF := Lib.hid htr
            clear hrr htr
            go_wp2_with fail
            with_reducible refine (rend_calls R ⟨[], 0⟩ wr HE.out).mono ?_
            rintro e w9 ⟨rfl, rfl⟩
            have hend : endS ⟨[], 0⟩ = 0 := rfl
            rw [hend]
            clear hend
            go_wp2
            go_ret
            exact ⟨rfl, HTF.out⟩
  · have hf' : fewB its = false := by simpa using hf
    rw [hf']
    clear hf hf'
    go_wp2_with fail
    with_reducible refine (lives_calls w2).mono ?_
    rintro e w3 ⟨rfl, t3⟩
    have HT3 := Lib.hid (HT2.out.still t3)
    clear t3
    go_wp2
    go_ret
    exact ⟨rfl, HT3.out⟩
end Go.Proofs.Ytgipafdfmghogaa
