/-
  A table of what each byte does to a register: it is made once; what it is when it is made.
  Conditions: the table is nobody else's.
-/
import Derived.Test.YtnfiaibfhfpmjaaWriteC
import Derived.Test.YtnfiaibfhfpmjaaCrcTurn
import Derived.Test.YtnfiaibfhfpmjaaOnce
import Derived.Deep.RegionWith
import Derived.Laws.BitsAll
import Derived.StillTailTactics
namespace Go.Proofs.Ytnfiaibfhfpmjaa
open Go.RowKit

def zeroTab : Array Value := #[.int .u32 0, .int .i32 0, .int .u32 0, .int .u32 0] ++ Array.replicate 256 (.int .u32 0)
theorem infoTab : (Try.prog.info? 60).map (fun i => (i.zero, i.size, i.bytes)) = some (some (.agg zeroTab), 260, 1040) := by kernel_rfl
theorem zeroTab_run (w : World) : (zeroValue 60).run Try.prog w = .ok (.agg zeroTab) w := by
  obtain ⟨i0, hi, hz0, hz1, hz2⟩ := info_parts infoTab
  simp [zeroValue, typeInfo, hi, hz0]

/-- A register, as a value. -/
def regV (r : BitVec 32) : Value := .int .u32 (r.toNat : Int)
/-- What a byte does. -/
def tabAt (j : Nat) : BitVec 32 := stps 8 (BitVec.ofNat 32 j)

/-- The block of a table. -/
def TBlk (w : World) (B : Nat) (cur : Array Value) : Prop := (∃ t, w.heap[B]? = some (.cells cur t (0, 0))) ∧ cur.size = 260
theorem TBlk.cell {w : World} {B : Nat} {cur : Array Value} (h : TBlk w B cur) (i : Nat) : w.cell? ⟨B, i, none⟩ = cur[i]? := by
  obtain ⟨⟨t, h⟩, _⟩ := h
  exact cell_of_row w B i cur t (0, 0) h
theorem TBlk.free {w : World} {B : Nat} {cur : Array Value} (h : TBlk w B cur) (i : Nat) : w.frozen? ⟨B, i, none⟩ = false := by
  obtain ⟨⟨t, h⟩, _⟩ := h
  simp [World.frozen?, h]
theorem TBlk.lt {w : World} {B : Nat} {cur : Array Value} (h : TBlk w B cur) : B < w.heap.size := by
  obtain ⟨⟨t, h⟩, _⟩ := h
  exact (Array.getElem?_eq_some_iff.1 h).1
theorem TBlk.set {w : World} {B : Nat} {cur : Array Value} (h : TBlk w B cur) (i : Nat) (v : Value) : TBlk (w.setCell ⟨B, i, none⟩ v) B (cur.setIfInBounds i v) := by
  obtain ⟨⟨t, h⟩, hs⟩ := h
  refine ⟨⟨t, ?_⟩, by simpa using hs⟩
  simp [World.setCell, Array.getElem?_modify, h]
theorem TBlk.drew {w : World} {B : Nat} {cur : Array Value} (h : TBlk w B cur) : TBlk w.drew B cur := h
theorem TBlk.turns {S : Nat → Prop} {w w' : World} {B : Nat} {cur : Array Value} (h : TBlk w B cur) (ht : Turns S w w') (hn : ¬ S B) : TBlk w' B cur := by
  have hl := h.lt
  obtain ⟨⟨t, h⟩, hs⟩ := h
  exact ⟨⟨t, (ht.block B hl hn).trans h⟩, hs⟩
theorem set_ne {cur : Array Value} {i j : Nat} (h : i ≠ j) (v : Value) : (cur.setIfInBounds i v)[j]? = cur[j]? := by
  rw [Array.getElem?_setIfInBounds]; simp [h]
theorem set_eq {cur : Array Value} {i : Nat} (h : i < cur.size) (v : Value) : (cur.setIfInBounds i v)[i]? = some v := by
  rw [Array.getElem?_setIfInBounds]; simp [h]

/-- The cells of a table, made or not. -/
def TCells (cur : Array Value) (m : Bool) : Prop := cur[0]? = some (.int .u32 m.toNat) ∧ cur[1]? = some (.int .i32 0) ∧ cur[3]? = some (.int .u32 m.toNat) ∧ (m = true → ∀ j, j < 256 → cur[4 + j]? = some (regV (tabAt j)))
/-- A table at block B, made or not. -/
def Tbl (w : World) (B : Nat) (m : Bool) : Prop := ∃ cur, TBlk w B cur ∧ TCells cur m
theorem Tbl.lt {w : World} {B : Nat} {m : Bool} (h : Tbl w B m) : B < w.heap.size := by obtain ⟨_, h, _⟩ := h; exact h.lt
theorem Tbl.turns {S : Nat → Prop} {w w' : World} {B : Nat} {m : Bool} (h : Tbl w B m) (ht : Turns S w w') (hn : ¬ S B) : Tbl w' B m := by
  obtain ⟨cur, h1, h2⟩ := h
  exact ⟨cur, h1.turns ht hn, h2⟩
theorem Tbl.new_of (w : World) (t : TypeId) : Tbl (w.alloc (.cells zeroTab t)) w.heap.size false :=
  ⟨zeroTab, ⟨⟨t, heap_alloc_new w _⟩, by simp [zeroTab]⟩, by simp [zeroTab], by simp [zeroTab], by simp [zeroTab], by intro h; cases h⟩
theorem Tbl.new (w : World) : Tbl (w.alloc (.cells zeroTab 60)) w.heap.size false := Tbl.new_of w _
/-- The table is made; nothing but it has turned. -/
def Makes (B : Nat) (w w' : World) : Prop := Tbl w' B true ∧ Turns (fun i => i = B) w w'

theorem reg_and1 (r : BitVec 32) : bits .and .u32 (r.toNat : Int) 1 = ((r.toNat % 2 : Nat) : Int) := by
  have := u32_and_nat r.toNat 1 r.isLt (by omega)
  rw [nat_mask1] at this
  exact this
theorem reg_shr1 (r : BitVec 32) : (r.toNat : Int) / (2 : Int) = ((r >>> 1).toNat : Int) := by
  rw [BitVec.toNat_ushiftRight, Nat.shiftRight_eq_div_pow]; omega
theorem reg_xor (r x : BitVec 32) : bits .xor .u32 (r.toNat : Int) (x.toNat : Int) = ((r ^^^ x).toNat : Int) := by
  rw [u32_xor_nat _ _ r.isLt x.isLt, BitVec.toNat_xor]
theorem reg_poly (r : BitVec 32) : bits .xor .u32 (r.toNat : Int) 3988292384 = ((r ^^^ poly).toNat : Int) := reg_xor r poly
theorem stp_odd (r : BitVec 32) (h : r.toNat % 2 = 1) : stp r = (r >>> 1) ^^^ poly := by
  have : r.getLsbD 0 = true := by rw [BitVec.getLsbD, Nat.testBit_zero, h]; rfl
  unfold stp; rw [if_pos this]
theorem stp_even (r : BitVec 32) (h : r.toNat % 2 = 0) : stp r = r >>> 1 := by
  have : r.getLsbD 0 = false := by rw [BitVec.getLsbD, Nat.testBit_zero, h]; rfl
  unfold stp; rw [this]; simp

theorem odd_val (q : BitVec 32) : Value.int .u32 (bits .xor .u32 ((q.toNat : Int) / 2) 3988292384) = regV ((q >>> 1) ^^^ poly) := by
  have h := reg_shr1 q
  rw [h, reg_poly]
  rfl
theorem eight_moves (r : BitVec 32) (w : World) : Calls Try.prog 43 #[regV r] w fun e w' => e = .returned (regV (stps 8 r)) ∧ w = w' := by
  unfold regV
  go_enter Try.func43, Try.ntmps43
  go_wp2
  go_loop [0, 4] (fun x i => ∃ k : Nat, k ≤ 8 ∧ i = .int .i64 k ∧ x = regV (stps k r)) (fun _ i => 8 - (intOf i).toNat)
  case atStart => exact ⟨0, by omega, rfl, rfl⟩
  case round =>
    obtain ⟨k, hk, rfl, rfl⟩ := hrel
    unfold regV
    by_cases hlt : k < 8
    · have hn : stps (k + 1) r = stp (stps k r) := rfl
      have HN := Lib.hid hn
      clear hn
      generalize stps k r = q at *
      have ha := reg_and1 q
      have hs := reg_shr1 q
      have hp := reg_poly (q >>> 1)
      have hb : q.toNat < 4294967296 := q.isLt
      rcases Nat.mod_two_eq_zero_or_one q.toNat with h | h
      · rw [h] at ha
        have HE := Lib.hid (stp_even q h)
        clear h
        go_wp2
        go_round
        case rel => exact ⟨k + 1, by omega, by go_num, by rw [HN.out, HE.out]; rfl⟩
        case measure => simp [intOf]; omega
      · rw [h] at ha
        have HE := Lib.hid (stp_odd q h)
        clear h
        go_wp2
        go_round
        case rel => exact ⟨k + 1, by omega, by go_num, by rw [HN.out, HE.out]; exact odd_val q⟩
        case measure => simp [intOf]; omega
    · obtain rfl : k = 8 := by omega
      go_wp2
      go_ret
      exact ⟨rfl, rfl⟩

/-- A table whose lock is held while it is filled. -/
def Fills (cur cur' : Array Value) (k : Nat) : Prop := (∀ i, i < 4 → cur'[i]? = cur[i]?) ∧ ∀ j, j < k → cur'[4 + j]? = some (regV (tabAt j))
theorem Fills.step {cur cur' : Array Value} {k : Nat} (h : Fills cur cur' k) (hs : cur'.size = 260) (hk : k < 256) : Fills cur (cur'.setIfInBounds (4 + k) (regV (tabAt k))) (k + 1) := by
  refine ⟨fun i hi => (set_ne (by omega) _).trans (h.1 i hi), fun j hj => ?_⟩
  by_cases e : j = k
  · subst e; exact set_eq (by omega) _
  · exact (set_ne (by omega) _).trans (h.2 j (by omega))

/-- What the table is behind filling it. -/
def Filled (B : Nat) (cur : Array Value) (w : World) (e : Ending) (w' : World) : Prop := e = .returned (.tuple #[]) ∧ ∃ cur', TBlk w' B cur' ∧ (∀ i, i < 3 → cur'[i]? = cur[i]?) ∧ cur'[3]? = some (.int .u32 1) ∧ (∀ j, j < 256 → cur'[4 + j]? = some (regV (tabAt j))) ∧ Turns (fun i => i = B) w w'
theorem eight_at (x : Int) (k : Nat) (w : World) (hk : k < 256) (hx : x = k) : Calls Try.prog 43 #[.int .u32 x] w fun e w' => e = .returned (regV (tabAt k)) ∧ w = w' := by
  have : Value.int .u32 x = regV (BitVec.ofNat 32 k) := by
    unfold regV
    rw [BitVec.toNat_ofNat, Nat.mod_eq_of_lt (by omega), hx]
  rw [this]
  exact eight_moves _ w

set_option maxRecDepth 100000 in
set_option maxHeartbeats 1000000 in
theorem fill_calls (B : Nat) (cur : Array Value) (w : World) (h : TBlk w B cur) : Calls Try.prog 40 #[.pointer (some ⟨B, 0, none⟩)] w (Filled B cur w) := by
  go_enter Try.func40, Try.ntmps40
  go_wp2
  go_loopw [3] (fun i wr => ∃ k : Nat, k ≤ 256 ∧ i = .int .i64 k ∧ ∃ cur', TBlk wr B cur' ∧ Fills cur cur' k ∧ Turns (fun i => i = B) w wr) (fun i _ => 256 - (intOf i).toNat)
  case atStart => exact ⟨0, by omega, rfl, cur, h, ⟨fun _ _ => rfl, fun j hj => by omega⟩, Turns.refl _ _⟩
  case round =>
    obtain ⟨k, hk, rfl, cur', hb, hf, ht⟩ := hrel
    by_cases hlt : k < 256
    · obtain ⟨v, hc⟩ : ∃ v, wr.cell? ⟨B, 4 + k, none⟩ = some v := ⟨cur'[4 + k]'(by rw [hb.2]; omega), (hb.cell _).trans (Array.getElem?_eq_getElem _)⟩
      have hz := hb.free (4 + k)
      have HB := Lib.hid hb
      have HF := Lib.hid hf
      have HT := Lib.hid ht
      clear hb hf ht h
      have hcv : IntKind.u32.wrap (k : Int) = k := by rw [IntKind.wrap_u32']; omega
      have he := (eight_at (k : Int) k wr.drew hlt rfl).mono (R' := fun e w'' => e = .returned (regV (tabAt k)) ∧ w'' = wr.drew) (fun _ _ h => ⟨h.1, h.2.symm⟩)
      go_wp2
      refine wp_region_still_tail 8 (by kernel_rfl) (by kernel_rfl) ?_
      simp only [List.take_succ_cons, List.take_zero, List.drop_succ_cons, List.drop_zero]
      still_step
      still_step
      still_step
      still_step
      still_call he
      still_step
      still_step
      still_step
      refine wpStill_nil ?_
      have HR : Hid (∃ cur'', TBlk (wr.drew.setCell ⟨B, 4 + k, none⟩ (.int .u32 ((tabAt k).toNat : Int))) B cur'' ∧ Fills cur cur'' (k + 1) ∧ Turns (fun i => i = B) w (wr.drew.setCell ⟨B, 4 + k, none⟩ (.int .u32 ((tabAt k).toNat : Int)))) :=
        ⟨_, HB.out.drew.set _ _, HF.out.step HB.out.2 hlt, HT.out.drew.setCell (p := ⟨B, 4 + k, none⟩) (fun _ => rfl) _⟩
      have hc2 : wr.drew.cell? ⟨B, 4 + k, none⟩ = some v := hc
      have hz2 : wr.drew.frozen? ⟨B, 4 + k, none⟩ = false := hz
      clear HB HF HT hc hz he
      unfold regV
      change wpList _ _ _ _ _ wr.drew
      generalize wr.drew = w2 at *
      go_wp2
      go_roundw
      case rel => exact ⟨k + 1, by omega, by go_num, HR.out⟩
      case measure => simp [intOf]; omega
    · obtain rfl : k = 256 := by omega
      obtain ⟨v, hc⟩ : ∃ v, wr.cell? ⟨B, 3, none⟩ = some v := ⟨cur'[3]'(by rw [hb.2]; omega), (hb.cell _).trans (Array.getElem?_eq_getElem _)⟩
      have hz := hb.free 3
      have HR : Hid (Filled B cur w (.returned (.tuple #[])) (wr.drew.setCell ⟨B, 3, none⟩ (.int .u32 1))) := by
        refine ⟨rfl, _, hb.drew.set _ _, fun i hi => (set_ne (by omega) _).trans (hf.1 i (by omega)), set_eq (by rw [hb.2]; omega) _, fun j hj => (set_ne (by omega) _).trans (hf.2 j hj), ht.drew.setCell (p := ⟨B, 3, none⟩) (fun _ => rfl) _⟩
      clear hb hf ht h
      go_wp2_with fail
      with_reducible refine (store_true ⟨B, 3, none⟩ v wr hc hz).mono ?_
      rintro e w2 ⟨rfl, rfl⟩
      go_wp2
      go_end0
      exact HR.out

/-- The table's function, as sync.Once calls it. -/
def fillV (B : Nat) : Value := .func (.func 40) #[.pointer (some ⟨B, 0, none⟩)] #[]
/-- It was done, and is made. -/
def Doing (B : Nat) (w : World) (e : Ending) (w' : World) : Prop := e = .returned (.tuple #[]) ∧ Makes B w w'

set_option maxRecDepth 100000 in
set_option maxHeartbeats 1600000 in
theorem slow_calls (B : Nat) (w : World) (h : Tbl w B false) : Calls Try.prog 42 #[.pointer (some ⟨B, 0, none⟩), fillV B] w (Doing B w) := by
  obtain ⟨cur, hb, h0, h1, h3, _⟩ := h
  have c1 := (hb.cell 1).trans h1
  have z1 := hb.free 1
  have hb1 := hb.set 1 (.int .i32 1)
  have t1 : Turns (fun i => i = B) w (w.setCell ⟨B, 1, none⟩ (.int .i32 1)) := (Turns.refl (fun i => i = B) w).setCell (p := ⟨B, 1, none⟩) (fun _ => rfl) _
  have d0 : (w.setCell ⟨B, 1, none⟩ (.int .i32 1)).cell? ⟨B, 0, none⟩ = some (.int .u32 ((false.toNat : Nat) : Int)) := (hb1.cell 0).trans ((set_ne (by omega) _).trans h0)
  have HB1 := Lib.hid hb1
  have HT1 := Lib.hid t1
  have H0 := Lib.hid h0
  have H1 := Lib.hid h1
  have HSZ := Lib.hid hb.2
  clear hb hb1 t1 h0 h1 h3
  have hnot : ∀ (x : Bool) (w : World), (Op.unary .not (.bool x)).run Try.prog w = .ok (.bool (!x)) w := fun _ _ => rfl
  unfold fillV
  go_enter_defers Try.func42, Try.ntmps42
  go_wp2_with fail
  with_reducible refine (lock_free ⟨B, 1, none⟩ w c1 z1).mono ?_
  rintro e w1 ⟨rfl, rfl⟩
  generalize w.setCell ⟨B, 1, none⟩ (.int .i32 1) = w1 at *
  go_wp2_with fail
  with_reducible refine (load_calls ⟨B, 0, none⟩ false w1 d0).mono ?_
  rintro e w2 ⟨rfl, rfl⟩
  go_wp2_with fail
  with_reducible refine (fill_calls B _ w1 HB1.out).mono ?_
  rintro e w3 ⟨rfl, cur', hb, hlo, hm, htab, ht⟩
  have c0 : w3.cell? ⟨B, 0, none⟩ = some (.int .u32 0) := (hb.cell 0).trans ((hlo 0 (by omega)).trans ((set_ne (by omega) _).trans H0.out))
  have f0 := hb.free 0
  have hb4 := hb.drew.set 0 (.int .u32 1)
  have c1 : (w3.drew.setCell ⟨B, 0, none⟩ (.int .u32 1)).cell? ⟨B, 1, none⟩ = some (.int .i32 1) := (hb4.cell 1).trans ((set_ne (by omega) _).trans ((hlo 1 (by omega)).trans (set_eq (by rw [HSZ.out]; omega) _)))
  have f1 := hb4.free 1
  have HR : Hid (Makes B w ((w3.drew.setCell ⟨B, 0, none⟩ (.int .u32 1)).setCell ⟨B, 1, none⟩ (.int .i32 0))) := by
    have hs : (cur'.setIfInBounds 0 (.int .u32 1)).size = 260 := hb4.2
    refine ⟨⟨_, hb4.set 1 (.int .i32 0), (set_ne (by omega) _).trans (set_eq (by rw [hb.2]; omega) _), set_eq (by rw [hs]; omega) _, (set_ne (by omega) _).trans ((set_ne (by omega) _).trans hm), fun _ j hj => (set_ne (by omega) _).trans ((set_ne (by omega) _).trans (htab j hj))⟩, ?_⟩
    exact ((HT1.out.next ht (fun _ _ h => h)).drew.setCell (p := ⟨B, 0, none⟩) (fun _ => rfl) _).setCell (p := ⟨B, 1, none⟩) (fun _ => rfl) _
  clear hb hlo hm htab ht hb4 HB1 HT1 H0 H1 HSZ
  go_wp2
  refine leaves_cons (f := 44) (args := #[.pointer (some ⟨B, 0, none⟩), .bool true]) (by simp) (by simp [go_sem]) ?_
  refine (store_deferred ⟨B, 0, none⟩ (.int .u32 0) .returning _ c0 f0).mono ?_
  rintro e u' w'' ⟨rfl, rfl, rfl⟩
  refine leaves_cons (f := 47) (args := #[.pointer (some ⟨B, 1, none⟩)]) (by simp [settle]) (by simp [go_sem]) ?_
  refine (unlock_deferred ⟨B, 1, none⟩ _ _ c1 f1).mono ?_
  rintro e u' w'' ⟨rfl, rfl, rfl⟩
  have HF : Doing B w (.returned (.tuple #[])) ((w3.drew.setCell ⟨B, 0, none⟩ (.int .u32 1)).setCell ⟨B, 1, none⟩ (.int .i32 0)) := ⟨rfl, HR.out⟩
  simpa [Leaves, settle, results, Try.results42] using HF

theorem do_calls (B : Nat) (m : Bool) (w : World) (h : Tbl w B m) : Calls Try.prog 39 #[.pointer (some ⟨B, 0, none⟩), fillV B] w (Doing B w) := by
  have HT := Lib.hid h
  obtain ⟨cur, hb, h0, _⟩ := h
  have c0 := (hb.cell 0).trans h0
  have hnot : ∀ (x : Bool) (w : World), (Op.unary .not (.bool x)).run Try.prog w = .ok (.bool (!x)) w := fun _ _ => rfl
  clear hb h0
  cases m
  · unfold fillV
    go_enter Try.func39, Try.ntmps39
    go_wp2_with fail
    with_reducible refine (load_calls ⟨B, 0, none⟩ false w c0).mono ?_
    rintro e w1 ⟨rfl, rfl⟩
    go_wp2_with fail
    refine (slow_calls B w HT.out).mono ?_
    rintro e w2 ⟨rfl, hm⟩
    have HM := Lib.hid hm
    clear hm
    go_wp2
    go_end0
    exact ⟨rfl, HM.out⟩
  · unfold fillV
    go_enter Try.func39, Try.ntmps39
    go_wp2_with fail
    with_reducible refine (load_calls ⟨B, 0, none⟩ true w c0).mono ?_
    rintro e w1 ⟨rfl, rfl⟩
    go_wp2
    go_end0
    exact ⟨rfl, HT.out, Turns.refl _ _⟩
end Go.Proofs.Ytnfiaibfhfpmjaa
