/-
  What belongs to an operation's kind: sound and own.
  Conditions: the table reads as it is laid.
-/
import Derived.Test.YtacmjmfdhegojaaDoorOpTab
namespace Go.Proofs.YtacmjmfdhegojaaDoor
open Go.RowKit

/-- An operation. -/
structure O14 where
  kd : UInt8
  a : ByteArray
  b : ByteArray
  nd : UInt8
  rl : UInt8
def O14.cells (o : O14) : Array Value := #[.int .u8 o.kd.toNat, .string o.a, .string o.b, .int .u8 o.nd.toNat, .int .u8 o.rl.toNat]
def O14.v (o : O14) : Value := .agg o.cells
def zero14 (k : UInt8) : O14 := ⟨k, ⟨#[]⟩, ⟨#[]⟩, 0, 0⟩
/-- It lies at block B. -/
def OpAt (w : World) (B : Nat) (o : O14) : Prop := w.heap[B]? = some (.cells #[.int .u8 o.kd.toNat, .string o.a, .string o.b, .int .u8 o.nd.toNat, .int .u8 o.rl.toNat] 24 (0, 0))
section
variable {w w' : World} {B : Nat} {o : O14}
theorem OpAt.lt (h : OpAt w B o) : B < w.heap.size := (Array.getElem?_eq_some_iff.1 h).1
theorem OpAt.c0 (h : OpAt w B o) : w.cell? ⟨B, 0, none⟩ = some (.int .u8 o.kd.toNat) := by rw [cell_of_row w B 0 _ _ (0, 0) h]; rfl
theorem OpAt.c1 (h : OpAt w B o) : w.cell? ⟨B, 1, none⟩ = some (.string o.a) := by rw [cell_of_row w B 1 _ _ (0, 0) h]; rfl
theorem OpAt.c2 (h : OpAt w B o) : w.cell? ⟨B, 2, none⟩ = some (.string o.b) := by rw [cell_of_row w B 2 _ _ (0, 0) h]; rfl
theorem OpAt.c3 (h : OpAt w B o) : w.cell? ⟨B, 3, none⟩ = some (.int .u8 o.nd.toNat) := by rw [cell_of_row w B 3 _ _ (0, 0) h]; rfl
theorem OpAt.c4 (h : OpAt w B o) : w.cell? ⟨B, 4, none⟩ = some (.int .u8 o.rl.toNat) := by rw [cell_of_row w B 4 _ _ (0, 0) h]; rfl
theorem OpAt.fr (h : OpAt w B o) (i : Nat) : w.frozen? ⟨B, i, none⟩ = false := by unfold OpAt at h; simp [World.frozen?, h]
theorem OpAt.turns {S : Nat → Prop} (h : OpAt w B o) (ht : Turns S w w') (hn : ¬ S B) : OpAt w' B o := (ht.block B h.lt hn).trans h
theorem OpAt.later (h : OpAt w B o) {n : Nat} (hn : B < n) (hb : Below n w w') : OpAt w' B o := (hb.block B hn).trans h
theorem OpAt.below (h : OpAt w B o) (hb : Below w.heap.size w w') : OpAt w' B o := h.later h.lt hb
theorem OpAt.iter (h : OpAt w B o) {k : Nat} (hk : B ≠ k) (s : ByteArray) (p : Nat) : OpAt (w.iterAt k s p) B o := (Lib.iterAt_other w k B s p hk).trans h
theorem OpAt.far (h : OpAt w B o) {p : Addr} (hp : B ≠ p.block) (u : Value) : OpAt (w.setCell p u) B o := (Below.heap_setCell w p u B hp).trans h
theorem OpAt.setAll (h : OpAt w B o) (r : O14) : OpAt (((((w.setCell ⟨B, 0, none⟩ (.int .u8 r.kd.toNat)).setCell ⟨B, 1, none⟩ (.string r.a)).setCell ⟨B, 2, none⟩ (.string r.b)).setCell ⟨B, 3, none⟩ (.int .u8 r.nd.toNat)).setCell ⟨B, 4, none⟩ (.int .u8 r.rl.toNat)) B r := by
  unfold OpAt at h ⊢; simp [World.setCell, Array.getElem?_modify, h]
theorem OpAt.set1 (h : OpAt w B o) (s : ByteArray) : OpAt (w.setCell ⟨B, 1, none⟩ (.string s)) B { o with a := s } := by
  unfold OpAt at h ⊢; simp [World.setCell, Array.getElem?_modify, h]
theorem OpAt.set2 (h : OpAt w B o) (s : ByteArray) : OpAt (w.setCell ⟨B, 2, none⟩ (.string s)) B { o with b := s } := by
  unfold OpAt at h ⊢; simp [World.setCell, Array.getElem?_modify, h]
theorem OpAt.set3 (h : OpAt w B o) (x : UInt8) : OpAt (w.setCell ⟨B, 3, none⟩ (.int .u8 x.toNat)) B { o with nd := x } := by
  unfold OpAt at h ⊢; simp [World.setCell, Array.getElem?_modify, h]
theorem OpAt.set4 (h : OpAt w B o) (x : UInt8) : OpAt (w.setCell ⟨B, 4, none⟩ (.int .u8 x.toNat)) B { o with rl := x } := by
  unfold OpAt at h ⊢; simp [World.setCell, Array.getElem?_modify, h]
end

/-- May the part of that sign be? -/
def snd14 (nd rl : Nat) (c : UInt8) : Bool := if c = 110 then decide (nd < 7) else if c = 114 then decide (1 ≤ rl) && decide (rl ≤ 3) else true
set_option maxRecDepth 100000 in
theorem sound14_calls (o : O14) (c : UInt8) (w : World) : Calls Tryd.prog 47 #[o.v, .int .i32 c.toNat] w (Says14 (.bool (snd14 o.nd.toNat o.rl.toNat c)) w) := by
  unfold O14.v O14.cells
  obtain ⟨r, hr⟩ : ∃ r, r = snd14 o.nd.toNat o.rl.toNat c := ⟨_, rfl⟩
  rw [← hr]
  unfold snd14 at hr
  generalize o.kd.toNat = kd
  generalize o.nd.toNat = nd at *
  generalize o.rl.toNat = rl at *
  generalize o.a = a
  generalize o.b = b
  by_cases h1 : c = 110
  · subst h1
    rw [if_pos rfl] at hr
    have e : ((110 : UInt8).toNat : Int) = 110 := rfl
    rw [e]
    have hd : decide ((nd : Int) < 7) = r := by rw [hr]; by_cases h : nd < 7 <;> simp [h] <;> omega
    clear hr e
    go_enter Tryd.func47, Tryd.ntmps47
    go_wp2
    go_ret
    exact ⟨rfl, (Below.refl _ w).alloc (Nat.le_refl _) _⟩
  · rw [if_neg h1] at hr
    have n1 : ((c.toNat : Int) == 110) = false := by
      rw [beq_eq_false_iff_ne]
      intro e
      exact h1 (UInt8.toNat_inj.1 (by have : (110 : UInt8).toNat = 110 := rfl; omega))
    by_cases h2 : c = 114
    · subst h2
      rw [if_pos rfl] at hr
      have e : ((114 : UInt8).toNat : Int) = 114 := rfl
      rw [e] at n1 ⊢
      clear e n1 h1
      by_cases h3 : 1 ≤ rl
      · have d3 : decide ((rl : Int) ≥ 1) = true := by simp; omega
        have hd : decide ((rl : Int) ≤ 3) = r := by rw [hr]; by_cases h : rl ≤ 3 <;> simp [h, h3] <;> omega
        clear hr
        go_enter Tryd.func47, Tryd.ntmps47
        go_wp2
        go_ret
        exact ⟨rfl, (Below.refl _ w).alloc (Nat.le_refl _) _⟩
      · have d3 : decide ((rl : Int) ≥ 1) = false := by simp; omega
        have hd : r = false := by rw [hr]; simp [h3]
        subst hd
        clear hr
        go_enter Tryd.func47, Tryd.ntmps47
        go_wp2
        go_ret
        exact ⟨rfl, (Below.refl _ w).alloc (Nat.le_refl _) _⟩
    · rw [if_neg h2] at hr
      subst hr
      have n2 : ((c.toNat : Int) == 114) = false := by
        rw [beq_eq_false_iff_ne]
        intro e
        exact h2 (UInt8.toNat_inj.1 (by have : (114 : UInt8).toNat = 114 := rfl; omega))
      clear h1 h2
      generalize (c.toNat : Int) = x at *
      go_enter Tryd.func47, Tryd.ntmps47
      go_wp2
      go_ret
      exact ⟨rfl, (Below.refl _ w).alloc (Nat.le_refl _) _⟩

/-- One part more. -/
def put14 (o acc : O14) (c : UInt8) : O14 := if c = 97 then { acc with a := o.a } else if c = 98 then { acc with b := o.b } else if c = 110 then { acc with nd := o.nd } else { acc with rl := o.rl }
/-- What belongs to its kind. -/
def own14 (o : O14) : O14 := (sig14 o.kd.toNat).foldl (put14 o) (zero14 o.kd)
theorem sizeOp14 : (Tryd.prog.info? 24).map (·.size) = some 5 := by kernel_rfl

theorem next_more14 {w : World} {it k : Nat} {l : List UInt8} (h : w.heap[it]? = some (.stringIter (tx14 l) k)) (hk : k < l.length) (ha : l[k].toNat < 128) (ty : TypeId) :
    (Instr.next (.pointer (some ⟨it, 0, none⟩)) true ty).run Tryd.prog w = .ok (.tuple #[.bool true, .int .i64 k, .int .i32 l[k].toNat]) (w.iterAt it (tx14 l) (k + 1)) := by
  have hs : k < (tx14 l).size := by rw [tx14_size]; exact hk
  have e := tx14_at l k hs
  have := Lib.run_next_ascii_at (P := Tryd.prog) w it (tx14 l) k ty h hs (by rw [e]; exact ha)
  rw [e] at this
  exact this
theorem next_end14 {w : World} {it : Nat} {l : List UInt8} (h : w.heap[it]? = some (.stringIter (tx14 l) l.length)) (ty : TypeId) :
    (Instr.next (.pointer (some ⟨it, 0, none⟩)) true ty).run Tryd.prog w = .ok (.tuple #[.bool false]) w :=
  Lib.run_next_end_at w it (tx14 l) l.length ty h (by rw [tx14_size]; exact Nat.lt_irrefl _)

theorem box14 (o : O14) (w w2 : World) (h : Laid14 w)
    (hb : Below (((w.alloc (.cells #[.int .u8 o.kd.toNat, .string o.a, .string o.b, .int .u8 o.nd.toNat, .int .u8 o.rl.toNat] 24)).alloc (.cells #[.int .u8 0, .string ⟨#[]⟩, .string ⟨#[]⟩, .int .u8 0, .int .u8 0] 24)).alloc (.cells #[.int .u8 o.kd.toNat, .string ⟨#[]⟩, .string ⟨#[]⟩, .int .u8 0, .int .u8 0] 24)).heap.size
      (((w.alloc (.cells #[.int .u8 o.kd.toNat, .string o.a, .string o.b, .int .u8 o.nd.toNat, .int .u8 o.rl.toNat] 24)).alloc (.cells #[.int .u8 0, .string ⟨#[]⟩, .string ⟨#[]⟩, .int .u8 0, .int .u8 0] 24)).alloc (.cells #[.int .u8 o.kd.toNat, .string ⟨#[]⟩, .string ⟨#[]⟩, .int .u8 0, .int .u8 0] 24)) w2) :
    OpAt w2 w.heap.size o ∧ OpAt w2 (w.heap.size + 1) (zero14 0) ∧ OpAt w2 (w.heap.size + 1 + 1) (zero14 o.kd) ∧ Below w.heap.size w w2 ∧ w.heap.size + 1 + 1 < w2.heap.size := by
  have a0 : OpAt (w.alloc (.cells #[.int .u8 o.kd.toNat, .string o.a, .string o.b, .int .u8 o.nd.toNat, .int .u8 o.rl.toNat] 24)) w.heap.size o := heap_alloc_new w _
  generalize hw1 : w.alloc (.cells #[.int .u8 o.kd.toNat, .string o.a, .string o.b, .int .u8 o.nd.toNat, .int .u8 o.rl.toNat] 24) = w1 at *
  have s1 : w1.heap.size = w.heap.size + 1 := by rw [← hw1]; simp
  have b1 : Below w.heap.size w w1 := by rw [← hw1]; exact (Below.refl _ w).alloc (Nat.le_refl _) _
  clear hw1
  have a1 : OpAt (w1.alloc (.cells #[.int .u8 0, .string ⟨#[]⟩, .string ⟨#[]⟩, .int .u8 0, .int .u8 0] 24)) w1.heap.size (zero14 0) := heap_alloc_new w1 _
  have a0 := a0.below (alloc14 (Below.refl _ w1) (.cells #[.int .u8 0, .string ⟨#[]⟩, .string ⟨#[]⟩, .int .u8 0, .int .u8 0] 24))
  have b2 := b1.trans ((alloc14 (Below.refl _ w1) (.cells #[.int .u8 0, .string ⟨#[]⟩, .string ⟨#[]⟩, .int .u8 0, .int .u8 0] 24)).mono b1.size)
  generalize hw3 : w1.alloc (.cells #[.int .u8 0, .string ⟨#[]⟩, .string ⟨#[]⟩, .int .u8 0, .int .u8 0] 24) = w3 at *
  have s3 : w3.heap.size = w.heap.size + 1 + 1 := by rw [← hw3]; simp [s1]
  clear hw3
  have a2 : OpAt (w3.alloc (.cells #[.int .u8 o.kd.toNat, .string ⟨#[]⟩, .string ⟨#[]⟩, .int .u8 0, .int .u8 0] 24)) w3.heap.size (zero14 o.kd) := heap_alloc_new w3 _
  have hz := alloc14 (Below.refl _ w3) (.cells #[.int .u8 o.kd.toNat, .string ⟨#[]⟩, .string ⟨#[]⟩, .int .u8 0, .int .u8 0] 24)
  have a0 := a0.below hz
  have a1 := a1.below hz
  have b3 := b2.trans (hz.mono b2.size)
  clear hz
  generalize w3.alloc (.cells #[.int .u8 o.kd.toNat, .string ⟨#[]⟩, .string ⟨#[]⟩, .int .u8 0, .int .u8 0] 24) = w4 at *
  rw [s1] at a1
  rw [s3] at a2
  exact ⟨a0.below hb, a1.below hb, a2.below hb, next14 b3 hb, by have := a2.lt; have := hb.size; omega⟩

set_option maxRecDepth 100000 in
set_option maxHeartbeats 1000000 in
theorem own14_calls (o : O14) (w : World) (h : Laid14 w) : Calls Tryd.prog 48 #[o.v] w (Says14 (own14 o).v w) := by
  obtain ⟨l, hl⟩ : ∃ l, l = sig14 o.kd.toNat := ⟨_, rfl⟩
  have hsg := sig14_signs o.kd.toNat
  rw [← hl] at hsg
  have HS := Lib.hid hsg
  obtain ⟨r, hr⟩ : ∃ r, r = own14 o := ⟨_, rfl⟩
  rw [← hr]
  have HR : Hid (r = l.foldl (put14 o) (zero14 o.kd)) := by rw [hr, hl]; rfl
  have HF := fun W (hw : Laid14 W) => of14_calls o.kd.toNat W hw
  unfold trt14 at HF
  rw [← hl] at HF
  clear hr hsg hl
  generalize tx14 (nam14 o.kd.toNat) = s0 at *
  generalize frm14 o.kd.toNat = f at *
  have hf := fun W => fieldS14 s0 (tx14 l) f W
  have hw64 : wrap64 (o.kd.toNat : Int) = o.kd.toNat := IntWalk.wrap64_in _ (by have := o.kd.toNat_lt; omega)
  have HFF := Lib.hid HF
  have HL := Lib.hid h
  have HBX := Lib.hid (fun w2 hb => box14 o w w2 h hb)
  have HL3 : Hid (Laid14 (((w.alloc (.cells #[.int .u8 o.kd.toNat, .string o.a, .string o.b, .int .u8 o.nd.toNat, .int .u8 o.rl.toNat] 24)).alloc (.cells #[.int .u8 0, .string ⟨#[]⟩, .string ⟨#[]⟩, .int .u8 0, .int .u8 0] 24)).alloc (.cells #[.int .u8 o.kd.toNat, .string ⟨#[]⟩, .string ⟨#[]⟩, .int .u8 0, .int .u8 0] 24))) :=
    h.later (alloc14 (alloc14 (alloc14 (Below.refl _ w) _) _) _)
  clear HF h
  unfold O14.v O14.cells
  obtain ⟨n, hn⟩ : ∃ n, n = l.length := ⟨_, rfl⟩
  have HN := Lib.hid hn
  clear hn
  go_enter Tryd.func48, Tryd.ntmps48
  go_wp2_with (go_at_call 30; (with_reducible refine (HFF.out _ HL3.out).mono ?_); rintro e w2 ⟨rfl, hb⟩; obtain ⟨x0, x1, x2, hb2, hsz⟩ := HBX.out w2 hb; have X0 := Lib.hid x0; have X1 := Lib.hid x1; have X2 := Lib.hid x2; have HB2 := Lib.hid hb2; clear hb x0 x1 x2 hb2 HL3 HBX)
  go_wp2
  go_loopg [5] n (fun gg _ wr => ∃ k : Nat, k ≤ n ∧ n - k ≤ gg ∧ Hid (wr.heap[w2.heap.size]? = some (.stringIter (tx14 l) k)) ∧ Hid (OpAt wr w.heap.size o) ∧ Hid (OpAt wr (w.heap.size + 1) (zero14 0)) ∧ Hid (OpAt wr (w.heap.size + 1 + 1) ((l.take k).foldl (put14 o) (zero14 o.kd))) ∧ Hid (Below w.heap.size w wr))
  case atStart =>
    have hi := World.iter_heap w2 (tx14 l) 0
    have hz := alloc14 (Below.refl _ w2) (.stringIter (tx14 l) 0)
    exact ⟨0, Nat.zero_le _, by omega, hi, X0.out.below hz, X1.out.below hz, X2.out.below hz, next14 HB2.out hz⟩
  case round =>
    obtain ⟨k, hk, hg, HI, Y0, Y1, Y2, HW⟩ := hrel
    by_cases hlt : k < n
    · have hkl : k < l.length := HN.out ▸ hlt
      have hc := HS.out l[k] (List.getElem_mem hkl)
      have hst : (l.take (k + 1)).foldl (put14 o) (zero14 o.kd) = put14 o ((l.take k).foldl (put14 o) (zero14 o.kd)) l[k] := by
        rw [List.take_succ_eq_append_getElem hkl, List.foldl_append]; rfl
      have hit := Lib.iterAt_heap wr w2.heap.size (tx14 l) k (k + 1) HI.out
      have hnx := next_more14 HI.out hkl
      have HIT := Lib.hid hit
      have Z0 := Lib.hid (Y0.out.iter (k := w2.heap.size) (by omega) (tx14 l) (k + 1))
      have Z1 := Lib.hid (Y1.out.iter (k := w2.heap.size) (by omega) (tx14 l) (k + 1))
      have Z2 := Lib.hid (Y2.out.iter (k := w2.heap.size) (by omega) (tx14 l) (k + 1))
      have ZW := Lib.hid (Lib.below_iterAt HW.out (k := w2.heap.size) (by omega) (tx14 l) (k + 1))
      have hnx := hnx (by rcases hc with h | h | h | h <;> rw [h] <;> decide)
      have HST := Lib.hid hst
      clear hst hit HI Y0 Y1 Y2 HW
      generalize (l.take k).foldl (put14 o) (zero14 o.kd) = acc at *
      generalize l[k] = c at *
      have z1 := Z0.out.c1
      have z2 := Z0.out.c2
      have z3 := Z0.out.c3
      have z4 := Z0.out.c4
      have y1 := Z2.out.c1
      have y2 := Z2.out.c2
      have y3 := Z2.out.c3
      have y4 := Z2.out.c4
      have zf := Z2.out.fr
      rcases hc with rfl | rfl | rfl | rfl
      · have e : ((97 : UInt8).toNat : Int) = 97 := rfl
        rw [e] at hnx
        clear e
        have hput : put14 o acc 97 = { acc with a := o.a } := by unfold put14; simp
        go_wp2
        go_roundg (n - (k + 1))
        case measure => omega
        case rel => exact ⟨k + 1, by omega, by omega, (Below.heap_setCell _ _ _ _ (by simp only []; omega)).trans HIT.out, Z0.out.far (by simp only []; omega) _, Z1.out.far (by simp only []; omega) _, by rw [HST.out, hput]; exact Z2.out.set1 o.a, ZW.out.setCell (by simp only []; omega) _⟩
      · have e : ((98 : UInt8).toNat : Int) = 98 := rfl
        rw [e] at hnx
        clear e
        have hput : put14 o acc 98 = { acc with b := o.b } := by unfold put14; simp
        go_wp2
        go_roundg (n - (k + 1))
        case measure => omega
        case rel => exact ⟨k + 1, by omega, by omega, (Below.heap_setCell _ _ _ _ (by simp only []; omega)).trans HIT.out, Z0.out.far (by simp only []; omega) _, Z1.out.far (by simp only []; omega) _, by rw [HST.out, hput]; exact Z2.out.set2 o.b, ZW.out.setCell (by simp only []; omega) _⟩
      · have e : ((110 : UInt8).toNat : Int) = 110 := rfl
        rw [e] at hnx
        clear e
        have hput : put14 o acc 110 = { acc with nd := o.nd } := by unfold put14; simp
        go_wp2
        go_roundg (n - (k + 1))
        case measure => omega
        case rel => exact ⟨k + 1, by omega, by omega, (Below.heap_setCell _ _ _ _ (by simp only []; omega)).trans HIT.out, Z0.out.far (by simp only []; omega) _, Z1.out.far (by simp only []; omega) _, by rw [HST.out, hput]; exact Z2.out.set3 o.nd, ZW.out.setCell (by simp only []; omega) _⟩
      · have e : ((114 : UInt8).toNat : Int) = 114 := rfl
        rw [e] at hnx
        clear e
        have hput : put14 o acc 114 = { acc with rl := o.rl } := by unfold put14; simp
        go_wp2
        go_roundg (n - (k + 1))
        case measure => omega
        case rel => exact ⟨k + 1, by omega, by omega, (Below.heap_setCell _ _ _ _ (by simp only []; omega)).trans HIT.out, Z0.out.far (by simp only []; omega) _, Z1.out.far (by simp only []; omega) _, by rw [HST.out, hput]; exact Z2.out.set4 o.rl, ZW.out.setCell (by simp only []; omega) _⟩
    · obtain rfl : k = n := by omega
      have HK := HN.out
      subst HK
      have hnx := next_end14 HI.out
      rw [List.take_length, ← HR.out] at Y2
      have y0 := Y2.out.c0
      have y1 := Y2.out.c1
      have y2 := Y2.out.c2
      have y3 := Y2.out.c3
      have y4 := Y2.out.c4
      have x0 := Y1.out.c0
      have x1 := Y1.out.c1
      have x2 := Y1.out.c2
      have x3 := Y1.out.c3
      have x4 := Y1.out.c4
      have xf := Y1.out.fr
      go_wp2
      exact bodyPost_ret (results_cell_row Tryd.results48 _ _ (w.heap.size + 1) _ _ (0, 0) _ rfl (Y1.out.setAll r) Tryd.underlying24 rfl sizeOp14) rfl
        ⟨rfl, ((((HW.out.setCell (by simp only []; omega) _).setCell (by simp only []; omega) _).setCell (by simp only []; omega) _).setCell (by simp only []; omega) _).setCell (by simp only []; omega) _⟩
end Go.Proofs.YtacmjmfdhegojaaDoor
