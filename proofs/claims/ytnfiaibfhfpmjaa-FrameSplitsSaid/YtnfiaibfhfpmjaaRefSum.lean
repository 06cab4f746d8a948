/-
  The document's own sum, bit by bit in a row of truths, is the sum by registers; nothing that was there turns.
  Conditions: at most 2^40 bytes.
-/
import Derived.Test.YtnfiaibfhfpmjaaSum
import Derived.StillTailTactics
namespace Go.Proofs.Ytnfiaibfhfpmjaa
open Go.RowKit

/-- The block of a row of 32 truths. -/
def bitsA (f : Nat → Bool) : Array Value := ((List.range 32).map fun i => Value.bool (f i)).toArray
def Reg (w : World) (B : Nat) (f : Nat → Bool) : Prop := w.heap[B]? = some (.cells (bitsA f) 92 (0, 0))
theorem bitsA_get (f : Nat → Bool) (i : Nat) (hi : i < 32) : (bitsA f)[i]? = some (.bool (f i)) := by
  simp [bitsA, hi]
theorem bitsA_set (f : Nat → Bool) (i : Nat) (b : Bool) : (bitsA f).setIfInBounds i (.bool b) = bitsA (fun j => if j = i then b else f j) := by
  apply Array.ext
  · simp [bitsA]
  · intro j h1 h2
    simp only [bitsA, List.setIfInBounds_toArray, List.getElem_toArray, List.getElem_set, List.getElem_map, List.getElem_range]
    by_cases e : i = j
    · subst e; simp
    · have e' : ¬ j = i := fun h => e h.symm
      simp [e, e']
theorem bitsA_congr {f g : Nat → Bool} (h : ∀ i, i < 32 → f i = g i) : bitsA f = bitsA g := by
  unfold bitsA
  congr 1
  apply List.map_congr_left
  intro i hi
  rw [h i (List.mem_range.1 hi)]
theorem Reg.congr {w : World} {B : Nat} {f g : Nat → Bool} (h : Reg w B f) (he : ∀ i, i < 32 → f i = g i) : Reg w B g := by
  unfold Reg at *
  rw [h, bitsA_congr he]
theorem Reg.cell {w : World} {B : Nat} {f : Nat → Bool} (h : Reg w B f) (i : Nat) (hi : i < 32) : w.cell? ⟨B, i, none⟩ = some (.bool (f i)) :=
  (cell_of_row w B i _ _ (0, 0) h).trans (bitsA_get f i hi)
theorem Reg.free {w : World} {B : Nat} {f : Nat → Bool} (h : Reg w B f) (i : Nat) : w.frozen? ⟨B, i, none⟩ = false := by unfold Reg at h; simp [World.frozen?, h]
theorem Reg.lt {w : World} {B : Nat} {f : Nat → Bool} (h : Reg w B f) : B < w.heap.size := (Array.getElem?_eq_some_iff.1 h).1
theorem Reg.set {w : World} {B : Nat} {f : Nat → Bool} (h : Reg w B f) (i : Nat) (b : Bool) : Reg (w.setCell ⟨B, i, none⟩ (.bool b)) B (fun j => if j = i then b else f j) := by
  unfold Reg at *
  rw [← bitsA_set]
  simp [World.setCell, Array.getElem?_modify, h]
theorem Reg.drew {w : World} {B : Nat} {f : Nat → Bool} (h : Reg w B f) : Reg w.drew B f := h
/-- A row of truths of this call's own; nothing else has turned. -/
def Own (w : World) (B : Nat) (f : Nat → Bool) (wr : World) : Prop := Reg wr B f ∧ Turns (fun i => i = B) w wr
theorem Own.congr {w wr : World} {B : Nat} {f g : Nat → Bool} (h : Own w B f wr) (he : ∀ i, i < 32 → f i = g i) : Own w B g wr := ⟨h.1.congr he, h.2⟩
theorem Own.set {w wr : World} {B : Nat} {f : Nat → Bool} (h : Own w B f wr) (i : Nat) (b : Bool) : Own w B (fun j => if j = i then b else f j) (wr.setCell ⟨B, i, none⟩ (.bool b)) :=
  ⟨h.1.set i b, h.2.setCell (p := ⟨B, i, none⟩) (fun _ => rfl) _⟩
theorem Own.reg {w wr : World} {B : Nat} {f : Nat → Bool} (h : Own w B f wr) : Reg wr B f := h.1

theorem zeroReg_run (w : World) : (zeroValue 92).run Try.prog w = .ok (.agg (bitsA fun _ => false)) w := by
  have h : (Try.prog.info? 92).map (fun i => (i.zero, i.size, i.bytes)) = some (some (.agg (bitsA fun _ => false)), 32, 32) := by kernel_rfl
  obtain ⟨i0, hi, hz0, hz1, hz2⟩ := info_parts h
  simp [zeroValue, typeInfo, hi, hz0]

theorem bit_mod (c i : Nat) : c / 2 ^ i % 2 = (c.testBit i).toNat := by
  rw [Nat.testBit_eq_decide_div_mod_eq]
  rcases Nat.mod_two_eq_zero_or_one (c / 2 ^ i) with h | h <;> rw [h] <;> rfl
theorem half_pow (c i : Nat) : c / 2 ^ (i + 1) = c / 2 ^ i / 2 := by rw [Nat.div_div_eq_div_mul, Nat.pow_succ]
theorem div_step (x k : Nat) : x / 2 ^ k = 2 * (x / 2 ^ (k + 1)) + (x.testBit k).toNat := by
  have h1 := half_pow x k
  have h2 := bit_mod x k
  omega
/-- Bits of a register. -/
def rb (r : BitVec 32) : Nat → Bool := fun j => r.getLsbD j
theorem ones_bits (i : Nat) (hi : i < 32) : decide (i < 32) = rb (~~~ 0#32) i := by
  unfold rb
  rw [BitVec.getLsbD_not, BitVec.getLsbD_zero, decide_eq_true hi]
  rfl
theorem xor_bits (r : BitVec 32) (c : UInt8) (j : Nat) (hj : j < 32) : (rb r j ^^ (decide (j < 8) && c.toNat.testBit j)) = rb (r ^^^ BitVec.ofNat 32 c.toNat) j := by
  unfold rb
  rw [BitVec.getLsbD_xor, BitVec.getLsbD_ofNat, decide_eq_true hj, Bool.true_and]
  by_cases h : j < 8
  · rw [decide_eq_true h, Bool.true_and]
  · have : c.toNat.testBit j = false := Nat.testBit_lt_two_pow (Nat.lt_of_lt_of_le c.toNat_lt (Nat.pow_le_pow_right (n := 2) (i := 8) (by omega) (by omega)))
    rw [this, Bool.and_false]
theorem shr_bits (p : BitVec 32) (j : Nat) (hj : j < 32) : (if j = 31 then false else if j < 31 then rb p (j + 1) else rb p j) = rb (p >>> 1) j := by
  unfold rb
  rw [BitVec.getLsbD_ushiftRight, Nat.add_comm 1 j]
  by_cases h : j = 31
  · rw [if_pos h, h, BitVec.getLsbD_of_ge p (31 + 1) (by omega)]
  · rw [if_neg h, if_pos (by omega)]
theorem stp_bits (p : BitVec 32) (j : Nat) (hj : j < 32) : (rb (p >>> 1) j ^^ (decide (j < 32) && (rb p 0 && (3988292384 : Nat).testBit j))) = rb (stp p) j := by
  unfold rb stp
  rw [decide_eq_true hj, Bool.true_and, BitVec.getLsbD_xor]
  congr 1
  cases p.getLsbD 0
  · simp
  · rw [Bool.true_and, if_pos rfl]
    rfl

theorem set_xor (f g : Nat → Bool) (i j : Nat) : (if j = i then !(f i ^^ (decide (i < i) && g i)) else f j ^^ (decide (j < i) && g j)) = if j = i then !(f j) else (f j ^^ (decide (j < i + 1) && g j)) := by
  by_cases h : j = i
  · subst h; simp
  · rw [if_neg h, if_neg h]
    have : decide (j < i) = decide (j < i + 1) := by rw [decide_eq_decide]; omega
    rw [this]
/-- A bit that is turned, or not. -/
theorem turn_on (f g : Nat → Bool) (i : Nat) (hg : g i = true) (j : Nat) : (if j = i then !(f i ^^ (decide (i < i) && g i)) else f j ^^ (decide (j < i) && g j)) = (f j ^^ (decide (j < i + 1) && g j)) := by
  rw [set_xor]
  by_cases h : j = i
  · subst h; simp [hg]
  · rw [if_neg h]
theorem turn_off (f g : Nat → Bool) (i : Nat) (hg : g i = false) (j : Nat) : (f j ^^ (decide (j < i) && g j)) = (f j ^^ (decide (j < i + 1) && g j)) := by
  by_cases h : j = i
  · subst h; simp [hg]
  · have : decide (j < i) = decide (j < i + 1) := by rw [decide_eq_decide]; omega
    rw [this]
theorem turn_none (f g : Nat → Bool) (j : Nat) : f j = (f j ^^ (decide (j < 0) && g j)) := by simp

set_option maxRecDepth 100000 in
set_option maxHeartbeats 4000000 in
theorem refsum_calls (s : ByteArray) (w : World) (hl : s.size ≤ 1099511627776) : Calls Try.prog 34 #[.string s] w fun e w' => e = .returned (regV (crc s.data.toList)) ∧ Turns (fun _ => False) w w' := by
  have hz := zeroReg_run
  have hnot : ∀ (x : Bool) (w : World), (Op.unary .not (.bool x)).run Try.prog w = .ok (.bool (!x)) w := fun _ _ => rfl
  have h0 : Own w w.heap.size (fun _ => false) (w.alloc (.cells (bitsA fun _ => false) 92)) := ⟨heap_alloc_new w _, (Turns.refl _ _).alloc _⟩
  have H0 := Lib.hid h0
  clear h0
  go_enter Try.func34, Try.ntmps34
  go_wp2
  clear hz
  generalize hB : w.heap.size = B at *
  have HB := Lib.hid hB
  clear hB
  go_loopw [14] (fun i wr => ∃ k : Nat, k ≤ 32 ∧ i = .int .i64 k ∧ Own w B (fun j => decide (j < k)) wr) (fun i _ => 32 - (intOf i).toNat)
  case atStart => exact ⟨0, by omega, rfl, H0.out.congr (fun i _ => by simp)⟩
  case round =>
    obtain ⟨k, hk, rfl, ho⟩ := hrel
    by_cases hlt : k < 32
    · have hc := ho.reg.cell k hlt
      have hf := ho.reg.free k
      have HN : Hid (Own w B (fun j => decide (j < k + 1)) (wr.setCell ⟨B, k, none⟩ (.bool true))) := (ho.set k true).congr (fun i _ => by
        by_cases e : i = k
        · subst e; simp
        · simp [e]; omega)
      clear ho H0
      go_wp2
      go_roundw
      case rel => exact ⟨k + 1, by omega, by go_num, HN.out⟩
      case measure => simp [intOf]; omega
    · obtain rfl : k = 32 := by omega
      have HO := Lib.hid (ho.congr (g := rb (~~~ 0#32)) (fun i hi => ones_bits i hi))
      clear ho H0
      go_wp2
      go_loopw [5] (fun i wr => ∃ k : Nat, k ≤ s.size ∧ i = .int .i64 k ∧ Own w B (rb (R (~~~ 0#32) (s.data.toList.take k))) wr) (fun i _ => s.size - (intOf i).toNat)
      case atStart => exact ⟨0, by omega, rfl, HO.out⟩
      case round =>
        clear HO
        obtain ⟨k, hk, rfl, ho⟩ := hrel
        by_cases hlt : k < s.size
        · have hsn : R (~~~ 0#32) (s.data.toList.take (k + 1)) = stps 8 (R (~~~ 0#32) (s.data.toList.take k) ^^^ BitVec.ofNat 32 s[k].toNat) := by
            rw [List.take_succ_eq_append_getElem (by rw [bytes_length]; exact hlt), R_snoc]
            rfl
          have HSN := Lib.hid hsn
          clear hsn
          generalize R (~~~ 0#32) (s.data.toList.take k) = r at *
          have HO := Lib.hid ho
          clear ho
          have hcb : (s[k].toNat : Int) < 256 := by have := s[k].toNat_lt; omega
          go_wp2
          generalize hcc : s[k] = c at *
          clear hcc
          go_loopw [6, 29] (fun x i wr => ∃ q : Nat, q ≤ 8 ∧ i = .int .i64 q ∧ x = .int .u8 ((c.toNat / 2 ^ q : Nat) : Int) ∧ Own w B (fun j => rb r j ^^ (decide (j < q) && c.toNat.testBit j)) wr) (fun _ i _ => 8 - (intOf i).toNat)
          case atStart => exact ⟨0, by omega, rfl, by simp, HO.out.congr (fun j _ => turn_none _ _ j)⟩
          case round =>
            clear HO
            obtain ⟨q, hq, rfl, rfl, ho⟩ := hrel
            by_cases hqlt : q < 8
            · have hbm := bit_mod c.toNat q
              have hhp := half_pow c.toNat q
              have hcq : c.toNat / 2 ^ q < 256 := Nat.lt_of_le_of_lt (Nat.div_le_self _ _) c.toNat_lt
              have HHP := Lib.hid hhp
              clear hhp
              have hcell := ho.reg.cell q (by omega)
              have hfree := ho.reg.free q
              cases hb : c.toNat.testBit q with
              | true =>
                rw [hb] at hbm
                have HN : Hid (Own w B (fun j => rb r j ^^ (decide (j < q + 1) && c.toNat.testBit j)) (wr.setCell ⟨B, q, none⟩ (.bool (!(rb r q ^^ (decide (q < q) && c.toNat.testBit q)))))) :=
                  (ho.set q _).congr (fun j _ => turn_on (rb r) (fun j => c.toNat.testBit j) q hb j)
                generalize (rb r q ^^ (decide (q < q) && c.toNat.testBit q)) = old at *
                generalize c.toNat / 2 ^ q = y at *
                have hym : (y : Int) % 2 = 1 := by have : true.toNat = 1 := rfl; omega
                clear ho hb hbm
                go_wp2
                go_roundw
                case rel => exact ⟨q + 1, by omega, by go_num, by rw [HHP.out]; go_num, HN.out⟩
                case measure => simp [intOf]; omega
              | false =>
                rw [hb] at hbm
                have HN : Hid (Own w B (fun j => rb r j ^^ (decide (j < q + 1) && c.toNat.testBit j)) wr) :=
                  ho.congr (fun j _ => turn_off (rb r) (fun j => c.toNat.testBit j) q hb j)
                generalize c.toNat / 2 ^ q = y at *
                have hym : (y : Int) % 2 = 0 := by have : false.toNat = 0 := rfl; omega
                clear ho hb hbm hcell hfree
                go_wp2
                go_roundw
                case rel => exact ⟨q + 1, by omega, by go_num, by rw [HHP.out]; go_num, HN.out⟩
                case measure => simp [intOf]; omega
            · obtain rfl : q = 8 := by omega
              have HO := Lib.hid (ho.congr (g := rb (r ^^^ BitVec.ofNat 32 c.toNat)) (fun j hj => xor_bits r c j hj))
              clear ho
              generalize r ^^^ BitVec.ofNat 32 c.toNat = z at *
              go_wp2
              generalize c.toNat / 2 ^ 8 = junk
              go_loopw [44] (fun i wr => ∃ q : Nat, q ≤ 8 ∧ i = .int .i64 q ∧ Own w B (rb (stps q z)) wr) (fun i _ => 8 - (intOf i).toNat)
              case atStart => exact ⟨0, by omega, rfl, HO.out⟩
              case round =>
                clear HO
                obtain ⟨q, hq, rfl, ho⟩ := hrel
                by_cases hqlt : q < 8
                · have HSQ : Hid (stps (q + 1) z = stp (stps q z)) := rfl
                  generalize stps q z = p at *
                  have hc0 := ho.reg.cell 0 (by omega)
                  have HO := Lib.hid ho
                  clear ho
                  go_wp2
                  go_loopw [48] (fun i wr => ∃ t : Nat, t ≤ 31 ∧ i = .int .i64 t ∧ Own w B (fun j => if j < t then rb p (j + 1) else rb p j) wr) (fun i _ => 31 - (intOf i).toNat)
                  case atStart => exact ⟨0, by omega, rfl, HO.out.congr (fun j _ => by simp)⟩
                  case round =>
                    clear HO hc0
                    obtain ⟨t, ht, rfl, ho⟩ := hrel
                    by_cases htlt : t < 31
                    · have hcell := ho.reg.cell (t + 1) (by omega)
                      rw [if_neg (by omega)] at hcell
                      have hcell2 := ho.reg.cell t (by omega)
                      have hfree := ho.reg.free t
                      have HN : Hid (Own w B (fun j => if j < t + 1 then rb p (j + 1) else rb p j) (wr.setCell ⟨B, t, none⟩ (.bool (rb p (t + 1))))) :=
                        (ho.set t _).congr (fun j _ => by
                          by_cases e : j = t
                          · subst e; simp
                          · rw [if_neg e]
                            by_cases e2 : j < t
                            · rw [if_pos e2, if_pos (by omega)]
                            · rw [if_neg e2, if_neg (by omega)])
                      rw [if_neg (by omega)] at hcell2
                      generalize rb p (t + 1) = nb at *
                      clear ho
                      go_wp2
                      go_roundw
                      case rel => exact ⟨t + 1, by omega, by go_num, HN.out⟩
                      case measure => simp [intOf]; omega
                    · obtain rfl : t = 31 := by omega
                      have hcell := ho.reg.cell 31 (by omega)
                      have hfree := ho.reg.free 31
                      have HN : Hid (Own w B (rb (p >>> 1)) (wr.setCell ⟨B, 31, none⟩ (.bool false))) :=
                        (ho.set 31 false).congr (fun j hj => shr_bits p j hj)
                      rw [if_neg (by omega)] at hcell
                      clear ho
                      generalize hout : rb p 0 = out at *
                      have HOUT := Lib.hid hout
                      clear hout
                      go_wp2
                      generalize wr.setCell ⟨B, 31, none⟩ (.bool false) = w7 at *
                      clear hcell hfree
                      go_loopw [10, 59] (fun x i wr => ∃ t : Nat, t ≤ 32 ∧ i = .int .i64 t ∧ x = .int .u32 (((3988292384 : Nat) / 2 ^ t : Nat) : Int) ∧ Own w B (fun j => rb (p >>> 1) j ^^ (decide (j < t) && (out && (3988292384 : Nat).testBit j))) wr) (fun _ i _ => 32 - (intOf i).toNat)
                      case atStart => exact ⟨0, by omega, rfl, by simp, HN.out.congr (fun j _ => turn_none _ (fun j => out && (3988292384 : Nat).testBit j) j)⟩
                      case round =>
                        clear HN
                        obtain ⟨t, ht, rfl, rfl, ho⟩ := hrel
                        by_cases htlt : t < 32
                        · have hbm := bit_mod 3988292384 t
                          have HHP := Lib.hid (half_pow 3988292384 t)
                          have hyq : 3988292384 / 2 ^ t < 4294967296 := Nat.lt_of_le_of_lt (Nat.div_le_self _ _) (by omega)
                          cases hout : out with
                          | false =>
                            have HN : Hid (Own w B (fun j => rb (p >>> 1) j ^^ (decide (j < t + 1) && (false && (3988292384 : Nat).testBit j))) wr) :=
                              (hout ▸ ho).congr (fun j _ => turn_off (rb (p >>> 1)) (fun j => false && (3988292384 : Nat).testBit j) t rfl j)
                            generalize 3988292384 / 2 ^ t = y at *
                            subst hout
                            clear ho hbm
                            go_wp2
                            go_roundw
                            case rel => exact ⟨t + 1, by omega, by go_num, by rw [HHP.out]; go_num, HN.out⟩
                            case measure => simp [intOf]; omega
                          | true =>
                            subst hout
                            cases hb : (3988292384 : Nat).testBit t with
                            | true =>
                              rw [hb] at hbm
                              have hcell := ho.reg.cell t (by omega)
                              have hfree := ho.reg.free t
                              have HN : Hid (Own w B (fun j => rb (p >>> 1) j ^^ (decide (j < t + 1) && (true && (3988292384 : Nat).testBit j))) (wr.setCell ⟨B, t, none⟩ (.bool (!(rb (p >>> 1) t ^^ (decide (t < t) && (true && (3988292384 : Nat).testBit t))))))) :=
                                (ho.set t _).congr (fun j _ => turn_on (rb (p >>> 1)) (fun j => true && (3988292384 : Nat).testBit j) t (by rw [hb]; rfl) j)
                              generalize (rb (p >>> 1) t ^^ (decide (t < t) && (true && (3988292384 : Nat).testBit t))) = old at *
                              generalize 3988292384 / 2 ^ t = y at *
                              have hym : (y : Int) % 2 = 1 := by have : true.toNat = 1 := rfl; omega
                              clear ho hb hbm
                              go_wp2
                              go_roundw
                              case rel => exact ⟨t + 1, by omega, by go_num, by rw [HHP.out]; go_num, HN.out⟩
                              case measure => simp [intOf]; omega
                            | false =>
                              rw [hb] at hbm
                              have HN : Hid (Own w B (fun j => rb (p >>> 1) j ^^ (decide (j < t + 1) && (true && (3988292384 : Nat).testBit j))) wr) :=
                                ho.congr (fun j _ => turn_off (rb (p >>> 1)) (fun j => true && (3988292384 : Nat).testBit j) t (by rw [hb]; rfl) j)
                              generalize 3988292384 / 2 ^ t = y at *
                              have hym : (y : Int) % 2 = 0 := by have : false.toNat = 0 := rfl; omega
                              clear ho hb hbm
                              go_wp2
                              go_roundw
                              case rel => exact ⟨t + 1, by omega, by go_num, by rw [HHP.out]; go_num, HN.out⟩
                              case measure => simp [intOf]; omega
                        · obtain rfl : t = 32 := by omega
                          have HN : Hid (Own w B (rb (stp p)) wr) := ho.congr (fun j hj => by rw [← HOUT.out]; exact stp_bits p j hj)
                          clear ho
                          generalize 3988292384 / 2 ^ 32 = junk5
                          go_wp2
                          go_roundw
                          case rel => exact ⟨q + 1, by omega, by go_num, by rw [HSQ.out]; exact HN.out⟩
                          case measure => simp [intOf]; omega
                · obtain rfl : q = 8 := by omega
                  rw [← HSN.out] at ho
                  have HN := Lib.hid ho
                  clear ho
                  go_wp2
                  go_roundw
                  case rel => exact ⟨k + 1, by omega, by go_num, HN.out⟩
                  case measure => simp [intOf]; omega
        · obtain rfl : k = s.size := by omega
          have HC : Hid (crc s.data.toList = ~~~ (R (~~~ 0#32) (s.data.toList.take s.size))) := by
            show crc s.data.toList = ~~~ (R (~~~ 0#32) (s.data.toList.take s.size))
            rw [List.take_of_length_le (by rw [bytes_length]; omega)]
            rfl
          generalize R (~~~ 0#32) (s.data.toList.take s.size) = r at *
          have hnb : ∀ j, j < 32 → (~~~ r).toNat.testBit j = !(rb r j) := by
            intro j hj
            show (~~~ r).getLsbD j = !(r.getLsbD j)
            rw [BitVec.getLsbD_not, decide_eq_true hj, Bool.true_and]
          have hxl : (~~~ r).toNat < 4294967296 := (~~~ r).isLt
          have HNB := Lib.hid hnb
          have HO := Lib.hid ho
          have HXL := Lib.hid hxl
          clear ho hnb hxl
          have HC2 : Hid (Ending.returned (regV (crc s.data.toList)) = Ending.returned (.int .u32 ((~~~ r).toNat : Int))) := by
            show Ending.returned (regV (crc s.data.toList)) = _
            rw [HC.out]
            rfl
          generalize (~~~ r).toNat = x at *
          clear HC
          go_wp2
          go_loopw [12, 13] (fun y i wr => ∃ t : Nat, t ≤ 32 ∧ i = .int .i64 ((t : Int) - 1) ∧ y = .int .u32 ((x / 2 ^ t : Nat) : Int) ∧ Own w B (rb r) wr) (fun _ i _ => (intOf i + 1).toNat)
          case atStart => exact ⟨32, by omega, by simp, by rw [Nat.div_eq_of_lt (by have := HXL.out; omega)]; rfl, HO.out⟩
          case round =>
            clear HO
            obtain ⟨t, ht, rfl, rfl, ho⟩ := hrel
            by_cases h1 : 1 ≤ t
            · obtain ⟨u, rfl⟩ : ∃ u, t = u + 1 := ⟨t - 1, by omega⟩
              have hst := div_step x u
              rw [HNB.out u (by omega)] at hst
              have hcell := ho.reg.cell u (by omega)
              have hyl : x / 2 ^ u < 4294967296 := Nat.lt_of_le_of_lt (Nat.div_le_self _ _) HXL.out
              have hun : (((u + 1 : Nat) : Int) - 1) = (u : Int) := by omega
              rw [hun]
              cases hb : rb r u with
              | true =>
                rw [hb] at hst hcell
                have HN : Hid (x / 2 ^ u = 2 * (x / 2 ^ (u + 1))) := by
                  show x / 2 ^ u = 2 * (x / 2 ^ (u + 1))
                  have : (!true).toNat = 0 := rfl
                  omega
                rw [HN.out] at hyl
                generalize x / 2 ^ (u + 1) = y at *
                have HOW := Lib.hid ho
                clear ho hst hb hun
                go_wp2
                go_roundw
                case rel => exact ⟨u, by omega, by go_num, by rw [HN.out]; go_num, HOW.out⟩
                case measure => simp [intOf]
              | false =>
                rw [hb] at hst hcell
                have HN : Hid (x / 2 ^ u = 2 * (x / 2 ^ (u + 1)) + 1) := by
                  show x / 2 ^ u = 2 * (x / 2 ^ (u + 1)) + 1
                  have : (!false).toNat = 1 := rfl
                  omega
                rw [HN.out] at hyl
                generalize x / 2 ^ (u + 1) = y at *
                have HOW := Lib.hid ho
                clear ho hst hb hun
                go_wp2
                go_roundw
                case rel => exact ⟨u, by omega, by go_num, by rw [HN.out]; go_num, HOW.out⟩
                case measure => simp [intOf]
            · obtain rfl : t = 0 := by omega
              have HF : Hid (Turns (fun _ => False) w wr) := ho.2.mono (fun i hi h => by have := HB.out; omega)
              clear ho
              have hx0 : x / 2 ^ 0 = x := by simp
              rw [hx0]
              clear hx0
              go_wp2
              go_ret
              exact ⟨by rw [HC2.out]; rfl, HF.out⟩
end Go.Proofs.Ytnfiaibfhfpmjaa
