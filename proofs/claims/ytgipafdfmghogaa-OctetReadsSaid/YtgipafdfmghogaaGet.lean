/-
  The law's 'get' reads an item of both readers: they agree, and go on together.
  Conditions: at most 2^40 bytes; with an error nothing is left.
-/
import Derived.Test.YtgipafdfmghogaaRefT
import Derived.Test.YtgipafdfmghogaaSame
import Derived.Test.YtgipafdfmghogaaPut
namespace Go.Proofs.Ytgipafdfmghogaa
open Go.RowKit

/-- Both have gone on, and agreed. -/
def Got (w : World) (R : Nat) (st : St) (e : Ending) (w' : World) : Prop := e = .returned (.tuple #[refV st, .bool true]) ∧ Did w R st w'

theorem Rdr.far {w w' : World} {R g : Nat} {st : St} {a b : Value} (h : Rdr w R st) (hb : Blk2 w g a b) (hne : R ≠ g) (ht : Turns (fun i => i = g) w w') : Rdr w' R st := by
  obtain ⟨v, h1, h2⟩ := h
  refine ⟨v, (ht.block R (Array.getElem?_eq_some_iff.1 h1).1 hne).trans h1, ?_⟩
  rcases h2 with h0 | ⟨g', off, c, rfl, h1, h2, h3, h4, hbk, h5⟩
  · exact .inl h0
  · have hn : g' ≠ g := by
      rintro rfl
      obtain ⟨cur, fr, hc⟩ := hbk
      unfold Blk2 at hb
      have := hb.symm.trans hc
      simp at this
    exact .inr ⟨g', off, c, rfl, h1, h2, Nat.lt_of_lt_of_le h3 ht.size, h4, hbk.keep ht hn, fun j hj => (ht.cell (p := ⟨g', off + j, none⟩) h3 hn).trans (h5 j hj)⟩

/-- The three boxes at the start. -/
abbrev boxG (w : World) (s : ByteArray) (e : Int) (kd x : Nat) (is : Bool) (t : ByteArray) (la : Option Addr) (n lc : Nat) (mo lo ee : Int) : World :=
  boxR (boxI (boxR w (.string s) (.int .i64 e)) kd x is t la n lc mo lo ee) (.string ⟨#[]⟩) (.int .i64 0)
theorem boxG_facts (w : World) (s : ByteArray) (e : Int) (kd x : Nat) (is : Bool) (t : ByteArray) (la : Option Addr) (n lc : Nat) (mo lo ee : Int) :
    Blk2 (boxG w s e kd x is t la n lc mo lo ee) (w.heap.size + 1 + 1) (.string ⟨#[]⟩) (.int .i64 0) ∧ Turns (fun _ => False) w (boxG w s e kd x is t la n lc mo lo ee) ∧
      (boxG w s e kd x is t la n lc mo lo ee).heap[w.heap.size + 1]? = some (.cells #[.int .u8 kd, .int .u64 x, .bool is, .string t, .slice la n lc, .int .i64 mo, .int .i64 lo, .int .i64 ee] 27 (0, 0)) := by
  refine ⟨by simpa using Blk2.new (boxI (boxR w (.string s) (.int .i64 e)) kd x is t la n lc mo lo ee) (.string ⟨#[]⟩) (.int .i64 0), (((Turns.refl _ _).alloc _).alloc _).alloc _, ?_⟩
  have h := heap_alloc_new (boxR w (.string s) (.int .i64 e)) (.cells #[.int .u8 kd, .int .u64 x, .bool is, .string t, .slice la n lc, .int .i64 mo, .int .i64 lo, .int .i64 ee] 27)
  have e1 : (boxR w (.string s) (.int .i64 e)).heap.size = w.heap.size + 1 := by simp
  rw [e1] at h
  have := ((Turns.refl (fun _ => False) (boxI (boxR w (.string s) (.int .i64 e)) kd x is t la n lc mo lo ee)).alloc (.cells #[.string ⟨#[]⟩, .int .i64 0] 42)).block (w.heap.size + 1) (by simp) (fun f => f)
  exact this.trans h

theorem got_end {w w0 wn : World} {R g : Nat} {st : St} {a b : Value} (ht : Turns (fun _ => False) w w0) (hwn : Did w0 R st wn) (hb : Blk2 wn g a b) (hR : R ≠ g) (hg : w.heap.size ≤ g) (x y : Value) : Did w R st ((wn.setCell ⟨g, 0, none⟩ x).setCell ⟨g, 1, none⟩ y) :=
  ⟨hwn.1.far hb hR (((Turns.refl (fun i => i = g) wn).setCell (p := ⟨g, 0, none⟩) (fun _ => rfl) x).setCell (p := ⟨g, 1, none⟩) (fun _ => rfl) y),
    ((((ht.mono (fun _ _ f => f.elim)).next hwn.2 (fun _ _ h => h)).setCell (p := ⟨g, 0, none⟩) (fun hlt => by simp at hlt; omega) x).setCell (p := ⟨g, 1, none⟩) (fun hlt => by simp at hlt; omega) y)⟩

theorem rowGo_length (long : Int) : ∀ (k : Nat) (st : St) (acc : List ByteArray), (rowGo long k st acc).2.length ≤ acc.length + k
  | 0, _, _ => Nat.le_refl _
  | k + 1, st, acc => by
    unfold rowGo
    split
    · simp
    · have := rowGo_length long k (textS st long).1 (acc ++ [⟨(textS st long).2.toArray⟩])
      rw [List.length_append, List.length_singleton] at this
      omega
theorem rowS_length (st : St) (most long : Int) : (rowS st most long).2.length ≤ 65536 := by
  have h1 := rowGo_length long (lengthS st most).2 (lengthS st most).1 []
  have h2 := lengthS_lt st most
  unfold rowS
  simp only [List.length_nil] at h1
  omega
theorem sameB_self (ss : List ByteArray) : sameB ss ss = true := by simp [sameB]
theorem RdS.ne_reader {w : World} {A : Option Addr} {ss : List ByteArray} {R : Nat} {st : St} (h : RdS w A ss) (hr : Rdr w R st) (hne : ss ≠ []) (a : Addr) (ha : A = some a) : a.block ≠ R := by
  obtain ⟨b, off, rfl, _, hc⟩ := h hne
  injection ha with ha
  subst ha
  rintro rfl
  have hp : 0 < ss.length := List.length_pos_iff.2 hne
  have h0 := hc 0 hp
  obtain ⟨v, hb, hv⟩ := hr
  obtain ⟨A, c, rfl⟩ := hv.shape
  rw [cell_of_row w _ (off + 0) _ _ (0, 0) hb] at h0
  rcases off with _ | _ | off <;> simp at h0
theorem Did.then_still {w w1 w2 : World} {R : Nat} {st : St} (h : Did w R st w1) (ht : Turns (fun _ => False) w1 w2) : Did w R st w2 := ⟨h.1.still ht, h.2.next ht (fun _ _ f => f.elim)⟩
theorem take_at (st : St) (ni : Int) (n : Nat) (w : World) (hok : Ok st) (hl : st.bs.length ≤ 1099511627776) (hn : n ≤ 9223372036854775807) (e : ni = n) :
    Calls Try.prog 43 #[refV st, .int .i64 ni] w (Ref3 (takeS st n).1 (takeS st n).2 w) := by
  subst e
  exact take_calls st n w hok hl hn
theorem takeS_few (st : St) (n : Nat) : (takeS st n).2.length ≤ st.bs.length := by
  unfold takeS
  split
  · simp
  · simp only [List.length_take]; omega
theorem Rd.shape {w : World} {v : Value} {l : List UInt8} (h : Rd w v l) : ∃ A c, v = .slice A l.length c := by
  obtain ⟨A, c, h, _⟩ := h
  exact ⟨A, c, h⟩
theorem Rd.far {w : World} {v : Value} {l : List UInt8} {g : Nat} {s : ByteArray} {e : Int} (h : Rd w v l) (hb : Blk2 w g (.string s) (.int .i64 e)) (x y : Value) : Rd ((w.setCell ⟨g, 0, none⟩ x).setCell ⟨g, 1, none⟩ y) v l := by
  obtain ⟨A, c, rfl, hc⟩ := h
  refine ⟨A, c, rfl, fun hne => ?_⟩
  obtain ⟨ad, rfl, hlt, hcell⟩ := hc hne
  have ht : Turns (fun i => i = g) w ((w.setCell ⟨g, 0, none⟩ x).setCell ⟨g, 1, none⟩ y) := ((Turns.refl (fun i => i = g) w).setCell (p := ⟨g, 0, none⟩) (fun _ => rfl) x).setCell (p := ⟨g, 1, none⟩) (fun _ => rfl) y
  have hn : ad.block ≠ g := by
    intro he
    cases l with
    | nil => exact absurd rfl hne
    | cons b l =>
      have h0 := hcell 0 (.int .u8 (b.toNat : Int)) rfl
      have e0 : ad.add 0 = ad := rfl
      rw [e0] at h0
      unfold World.cell? at h0
      unfold Blk2 at hb
      rw [he, hb] at h0
      dsimp only at h0
      split at h0
      · cases h0
      · obtain ⟨_, off, _⟩ := ad
        rcases off with _ | _ | off <;> simp at h0
  refine ⟨ad, rfl, Nat.lt_of_lt_of_le hlt ht.size, fun j u hu => ?_⟩
  rw [ht.cell (p := ad.add j) (by rw [add_block]; exact hlt) (by rw [add_block]; exact hn)]
  exact hcell j u hu
theorem boxG_param (w : World) (s : ByteArray) (e : Int) (kd x : Nat) (is : Bool) (t : ByteArray) (la : Option Addr) (n lc : Nat) (mo lo ee : Int) : Blk2 (boxG w s e kd x is t la n lc mo lo ee) w.heap.size (.string s) (.int .i64 e) :=
  (Blk2.new w (.string s) (.int .i64 e)).still (((Turns.refl _ _).alloc _).alloc _)

set_option maxRecDepth 100000 in
set_option maxHeartbeats 4000000 in
theorem get0 (R : Nat) (st : St) (kd x : Nat) (is : Bool) (t : ByteArray) (la : Option Addr) (n lc : Nat) (mo lo ee : Int) (w : World) (h : Rdr w R st) (hok : Ok st) (hl : st.bs.length ≤ 1099511627776) (hr : kd % 9 = 0) :
    Calls Try.prog 16 #[.pointer (some ⟨R, 0, none⟩), refV st, .agg #[.int .u8 kd, .int .u64 x, .bool is, .string t, .slice la n lc, .int .i64 mo, .int .i64 lo, .int .i64 ee]] w (Got w R (numS st 1).1) := by
  have hkr : (kd : Int) % 9 = 0 := by omega
  have HH := Lib.hid h
  have hRlt := h.lt
  have HK := Lib.hid (fun W si (e : si = ((1 : Nat) : Int)) => get_calls st si 1 W hok hl e (by omega))
  have HA := Lib.hid (fun W (h : Rdr W R st) => rbyte_calls R st W h hl)
  have hx : (numS st 1).2 < 256 := numS_lt st 1
  have hw : IntKind.u64.wrap ((numS st 1).2 : Int) = ((numS st 1).2 : Int) := by rw [IntKind.wrap_u64]; omega
  clear hok hl hr h
  generalize (numS st 1).2 = y at *
  generalize (numS st 1).1 = s2 at *
  obtain ⟨l, e⟩ := st
  unfold refV at HK
  unfold refV
  dsimp only at *
  generalize ByteArray.mk l.toArray = s at *
  obtain ⟨b0, b1, b2⟩ := boxG_facts w s e kd x is t la n lc mo lo ee
  have HB := Lib.hid b0
  have HBT := Lib.hid b1
  have HBI := Lib.hid b2
  clear b0 b1 b2
  go_enter Try.func16, Try.ntmps16
  go_wp2_with fail
  with_reducible refine (HK.out _ _ (by simp)).mono ?_
  rintro e' w1 ⟨rfl, ht⟩
  have hb1 := HB.out.still ht
  have hlt : w.heap.size + 1 + 1 < w1.heap.size := hb1.lt
  have hlt1 : w.heap.size + 1 < w1.heap.size := by omega
  have hbi := (ht.block (w.heap.size + 1) (by simp) (fun f => f)).trans HBI.out
  have i5 : w1.cell? ⟨w.heap.size + 1, 5, none⟩ = some (.int .i64 mo) := by rw [cell_of_row w1 _ 5 _ _ (0, 0) hbi]; rfl
  have i6 : w1.cell? ⟨w.heap.size + 1, 6, none⟩ = some (.int .i64 lo) := by rw [cell_of_row w1 _ 6 _ _ (0, 0) hbi]; rfl
  have HT1 := Lib.hid (HBT.out.next ht (fun _ _ f => f))
  have hba := Blk2.new w1 (.string ⟨s2.bs.toArray⟩) (.int .i64 s2.e)
  have hbb := hb1.still ((Turns.refl _ _).alloc (.cells #[.string ⟨s2.bs.toArray⟩, .int .i64 s2.e] 42))
  have HBA := Lib.hid hba
  have HBB := Lib.hid hbb
  have HBI := Lib.hid (((Turns.refl (fun _ => False) w1).alloc (.cells #[.string ⟨s2.bs.toArray⟩, .int .i64 s2.e] 42)).drew.block (w.heap.size + 1) (by omega) (fun f => f) |>.trans hbi)
  have HRD := Lib.hid (HH.out.still ((HT1.out.alloc (.cells #[.string ⟨s2.bs.toArray⟩, .int .i64 s2.e] 42)).drew))
  clear hb1 ht HB HBT HK hba hbb hbi
  unfold refV
  go_wp2_with fail
  go_region_with (go_at_call 26; refine (HA.out _ HRD.out).mono ?_; rintro e' wn ⟨rfl, hwn⟩; have hBA := HBA.out.turns hwn.2.undrew (by omega); have hBB := HBB.out.turns hwn.2.undrew (by omega); have ca0 := hBA.c0; have ca1 := hBA.c1; have cb0 := hBB.c0; have cb1 := hBB.c1; have fb := hBB.fr; have HBB2 := Lib.hid hBB; have hbn := (hwn.2.block (w.heap.size + 1) (by simp; omega) (by omega)).trans HBI.out; have j5 : wn.cell? ⟨w.heap.size + 1, 5, none⟩ = some (.int .i64 mo) := (by rw [cell_of_row wn _ 5 _ _ (0, 0) hbn]; rfl); have j6 : wn.cell? ⟨w.heap.size + 1, 6, none⟩ = some (.int .i64 lo) := (by rw [cell_of_row wn _ 6 _ _ (0, 0) hbn]; rfl); have HWN := Lib.hid hwn; clear hwn hBA hBB hbn)
  all_goals
    go_wp2
    have r0 := (HBB2.out.set (a' := .string ⟨s2.bs.toArray⟩) (b' := .int .i64 s2.e)).c0
    have r1 := (HBB2.out.set (a' := .string ⟨s2.bs.toArray⟩) (b' := .int .i64 s2.e)).c1
    exact bodyPost_ret (v := .tuple #[.agg #[.string ⟨s2.bs.toArray⟩, .int .i64 s2.e], .bool true]) (by simp [results, Try.results16, go_sem, r0, r1]) rfl ⟨rfl, got_end (HT1.out.alloc _).drew HWN.out HBB2.out (by omega) (by omega) _ _⟩

set_option maxRecDepth 100000 in
set_option maxHeartbeats 4000000 in
theorem get1 (R : Nat) (st : St) (kd x : Nat) (is : Bool) (t : ByteArray) (la : Option Addr) (n lc : Nat) (mo lo ee : Int) (w : World) (h : Rdr w R st) (hok : Ok st) (hl : st.bs.length ≤ 1099511627776) (hr : kd % 9 = 1) :
    Calls Try.prog 16 #[.pointer (some ⟨R, 0, none⟩), refV st, .agg #[.int .u8 kd, .int .u64 x, .bool is, .string t, .slice la n lc, .int .i64 mo, .int .i64 lo, .int .i64 ee]] w (Got w R (numS st 2).1) := by
  have hkr : (kd : Int) % 9 = 1 := by omega
  have HH := Lib.hid h
  have hRlt := h.lt
  have HK := Lib.hid (fun W si (e : si = ((2 : Nat) : Int)) => get_calls st si 2 W hok hl e (by omega))
  have HA := Lib.hid (fun W (h : Rdr W R st) => rtwo_calls R st W h hl)
  have hx : (numS st 2).2 < 65536 := numS_lt st 2
  have hw : IntKind.u64.wrap ((numS st 2).2 : Int) = ((numS st 2).2 : Int) := by rw [IntKind.wrap_u64]; omega
  clear hok hl hr h
  generalize (numS st 2).2 = y at *
  generalize (numS st 2).1 = s2 at *
  obtain ⟨l, e⟩ := st
  unfold refV at HK
  unfold refV
  dsimp only at *
  generalize ByteArray.mk l.toArray = s at *
  obtain ⟨b0, b1, b2⟩ := boxG_facts w s e kd x is t la n lc mo lo ee
  have HB := Lib.hid b0
  have HBT := Lib.hid b1
  have HBI := Lib.hid b2
  clear b0 b1 b2
  go_enter Try.func16, Try.ntmps16
  go_wp2_with fail
  with_reducible refine (HK.out _ _ (by simp)).mono ?_
  rintro e' w1 ⟨rfl, ht⟩
  have hb1 := HB.out.still ht
  have hlt : w.heap.size + 1 + 1 < w1.heap.size := hb1.lt
  have hlt1 : w.heap.size + 1 < w1.heap.size := by omega
  have hbi := (ht.block (w.heap.size + 1) (by simp) (fun f => f)).trans HBI.out
  have i5 : w1.cell? ⟨w.heap.size + 1, 5, none⟩ = some (.int .i64 mo) := by rw [cell_of_row w1 _ 5 _ _ (0, 0) hbi]; rfl
  have i6 : w1.cell? ⟨w.heap.size + 1, 6, none⟩ = some (.int .i64 lo) := by rw [cell_of_row w1 _ 6 _ _ (0, 0) hbi]; rfl
  have HT1 := Lib.hid (HBT.out.next ht (fun _ _ f => f))
  have hba := Blk2.new w1 (.string ⟨s2.bs.toArray⟩) (.int .i64 s2.e)
  have hbb := hb1.still ((Turns.refl _ _).alloc (.cells #[.string ⟨s2.bs.toArray⟩, .int .i64 s2.e] 42))
  have HBA := Lib.hid hba
  have HBB := Lib.hid hbb
  have HBI := Lib.hid (((Turns.refl (fun _ => False) w1).alloc (.cells #[.string ⟨s2.bs.toArray⟩, .int .i64 s2.e] 42)).drew.block (w.heap.size + 1) (by omega) (fun f => f) |>.trans hbi)
  have HRD := Lib.hid (HH.out.still ((HT1.out.alloc (.cells #[.string ⟨s2.bs.toArray⟩, .int .i64 s2.e] 42)).drew))
  clear hb1 ht HB HBT HK hba hbb hbi
  unfold refV
  go_wp2_with fail
  go_region_with (go_at_call 27; refine (HA.out _ HRD.out).mono ?_; rintro e' wn ⟨rfl, hwn⟩; have hBA := HBA.out.turns hwn.2.undrew (by omega); have hBB := HBB.out.turns hwn.2.undrew (by omega); have ca0 := hBA.c0; have ca1 := hBA.c1; have cb0 := hBB.c0; have cb1 := hBB.c1; have fb := hBB.fr; have HBB2 := Lib.hid hBB; have hbn := (hwn.2.block (w.heap.size + 1) (by simp; omega) (by omega)).trans HBI.out; have j5 : wn.cell? ⟨w.heap.size + 1, 5, none⟩ = some (.int .i64 mo) := (by rw [cell_of_row wn _ 5 _ _ (0, 0) hbn]; rfl); have j6 : wn.cell? ⟨w.heap.size + 1, 6, none⟩ = some (.int .i64 lo) := (by rw [cell_of_row wn _ 6 _ _ (0, 0) hbn]; rfl); have HWN := Lib.hid hwn; clear hwn hBA hBB hbn)
  all_goals
    go_wp2
    have r0 := (HBB2.out.set (a' := .string ⟨s2.bs.toArray⟩) (b' := .int .i64 s2.e)).c0
    have r1 := (HBB2.out.set (a' := .string ⟨s2.bs.toArray⟩) (b' := .int .i64 s2.e)).c1
    exact bodyPost_ret (v := .tuple #[.agg #[.string ⟨s2.bs.toArray⟩, .int .i64 s2.e], .bool true]) (by simp [results, Try.results16, go_sem, r0, r1]) rfl ⟨rfl, got_end (HT1.out.alloc _).drew HWN.out HBB2.out (by omega) (by omega) _ _⟩

set_option maxRecDepth 100000 in
set_option maxHeartbeats 4000000 in
theorem get2 (R : Nat) (st : St) (kd x : Nat) (is : Bool) (t : ByteArray) (la : Option Addr) (n lc : Nat) (mo lo ee : Int) (w : World) (h : Rdr w R st) (hok : Ok st) (hl : st.bs.length ≤ 1099511627776) (hr : kd % 9 = 2) :
    Calls Try.prog 16 #[.pointer (some ⟨R, 0, none⟩), refV st, .agg #[.int .u8 kd, .int .u64 x, .bool is, .string t, .slice la n lc, .int .i64 mo, .int .i64 lo, .int .i64 ee]] w (Got w R (numS st 4).1) := by
  have hkr : (kd : Int) % 9 = 2 := by omega
  have HH := Lib.hid h
  have hRlt := h.lt
  have HK := Lib.hid (fun W si (e : si = ((4 : Nat) : Int)) => get_calls st si 4 W hok hl e (by omega))
  have HA := Lib.hid (fun W (h : Rdr W R st) => rfour_calls R st W h hl)
  have hx : (numS st 4).2 < 4294967296 := numS_lt st 4
  have hw : IntKind.u64.wrap ((numS st 4).2 : Int) = ((numS st 4).2 : Int) := by rw [IntKind.wrap_u64]; omega
  clear hok hl hr h
  generalize (numS st 4).2 = y at *
  generalize (numS st 4).1 = s2 at *
  obtain ⟨l, e⟩ := st
  unfold refV at HK
  unfold refV
  dsimp only at *
  generalize ByteArray.mk l.toArray = s at *
  obtain ⟨b0, b1, b2⟩ := boxG_facts w s e kd x is t la n lc mo lo ee
  have HB := Lib.hid b0
  have HBT := Lib.hid b1
  have HBI := Lib.hid b2
  clear b0 b1 b2
  go_enter Try.func16, Try.ntmps16
  go_wp2_with fail
  with_reducible refine (HK.out _ _ (by simp)).mono ?_
  rintro e' w1 ⟨rfl, ht⟩
  have hb1 := HB.out.still ht
  have hlt : w.heap.size + 1 + 1 < w1.heap.size := hb1.lt
  have hlt1 : w.heap.size + 1 < w1.heap.size := by omega
  have hbi := (ht.block (w.heap.size + 1) (by simp) (fun f => f)).trans HBI.out
  have i5 : w1.cell? ⟨w.heap.size + 1, 5, none⟩ = some (.int .i64 mo) := by rw [cell_of_row w1 _ 5 _ _ (0, 0) hbi]; rfl
  have i6 : w1.cell? ⟨w.heap.size + 1, 6, none⟩ = some (.int .i64 lo) := by rw [cell_of_row w1 _ 6 _ _ (0, 0) hbi]; rfl
  have HT1 := Lib.hid (HBT.out.next ht (fun _ _ f => f))
  have hba := Blk2.new w1 (.string ⟨s2.bs.toArray⟩) (.int .i64 s2.e)
  have hbb := hb1.still ((Turns.refl _ _).alloc (.cells #[.string ⟨s2.bs.toArray⟩, .int .i64 s2.e] 42))
  have HBA := Lib.hid hba
  have HBB := Lib.hid hbb
  have HBI := Lib.hid (((Turns.refl (fun _ => False) w1).alloc (.cells #[.string ⟨s2.bs.toArray⟩, .int .i64 s2.e] 42)).drew.block (w.heap.size + 1) (by omega) (fun f => f) |>.trans hbi)
  have HRD := Lib.hid (HH.out.still ((HT1.out.alloc (.cells #[.string ⟨s2.bs.toArray⟩, .int .i64 s2.e] 42)).drew))
  clear hb1 ht HB HBT HK hba hbb hbi
  unfold refV
  go_wp2_with fail
  go_region_with (go_at_call 28; refine (HA.out _ HRD.out).mono ?_; rintro e' wn ⟨rfl, hwn⟩; have hBA := HBA.out.turns hwn.2.undrew (by omega); have hBB := HBB.out.turns hwn.2.undrew (by omega); have ca0 := hBA.c0; have ca1 := hBA.c1; have cb0 := hBB.c0; have cb1 := hBB.c1; have fb := hBB.fr; have HBB2 := Lib.hid hBB; have hbn := (hwn.2.block (w.heap.size + 1) (by simp; omega) (by omega)).trans HBI.out; have j5 : wn.cell? ⟨w.heap.size + 1, 5, none⟩ = some (.int .i64 mo) := (by rw [cell_of_row wn _ 5 _ _ (0, 0) hbn]; rfl); have j6 : wn.cell? ⟨w.heap.size + 1, 6, none⟩ = some (.int .i64 lo) := (by rw [cell_of_row wn _ 6 _ _ (0, 0) hbn]; rfl); have HWN := Lib.hid hwn; clear hwn hBA hBB hbn)
  all_goals
    go_wp2
    have r0 := (HBB2.out.set (a' := .string ⟨s2.bs.toArray⟩) (b' := .int .i64 s2.e)).c0
    have r1 := (HBB2.out.set (a' := .string ⟨s2.bs.toArray⟩) (b' := .int .i64 s2.e)).c1
    exact bodyPost_ret (v := .tuple #[.agg #[.string ⟨s2.bs.toArray⟩, .int .i64 s2.e], .bool true]) (by simp [results, Try.results16, go_sem, r0, r1]) rfl ⟨rfl, got_end (HT1.out.alloc _).drew HWN.out HBB2.out (by omega) (by omega) _ _⟩

set_option maxRecDepth 100000 in
set_option maxHeartbeats 4000000 in
theorem get3 (R : Nat) (st : St) (kd x : Nat) (is : Bool) (t : ByteArray) (la : Option Addr) (n lc : Nat) (mo lo ee : Int) (w : World) (h : Rdr w R st) (hok : Ok st) (hl : st.bs.length ≤ 1099511627776) (hr : kd % 9 = 3) :
    Calls Try.prog 16 #[.pointer (some ⟨R, 0, none⟩), refV st, .agg #[.int .u8 kd, .int .u64 x, .bool is, .string t, .slice la n lc, .int .i64 mo, .int .i64 lo, .int .i64 ee]] w (Got w R (numS st 8).1) := by
  have hkr : (kd : Int) % 9 = 3 := by omega
  have HH := Lib.hid h
  have hRlt := h.lt
  have HK := Lib.hid (fun W si (e : si = ((8 : Nat) : Int)) => get_calls st si 8 W hok hl e (by omega))
  have HA := Lib.hid (fun W (h : Rdr W R st) => reight_calls R st W h hl)
  clear hok hl hr h
  generalize (numS st 8).2 = y at *
  generalize (numS st 8).1 = s2 at *
  obtain ⟨l, e⟩ := st
  unfold refV at HK
  unfold refV
  dsimp only at *
  generalize ByteArray.mk l.toArray = s at *
  obtain ⟨b0, b1, b2⟩ := boxG_facts w s e kd x is t la n lc mo lo ee
  have HB := Lib.hid b0
  have HBT := Lib.hid b1
  have HBI := Lib.hid b2
  clear b0 b1 b2
  go_enter Try.func16, Try.ntmps16
  go_wp2_with fail
  with_reducible refine (HK.out _ _ (by simp)).mono ?_
  rintro e' w1 ⟨rfl, ht⟩
  have hb1 := HB.out.still ht
  have hlt : w.heap.size + 1 + 1 < w1.heap.size := hb1.lt
  have hlt1 : w.heap.size + 1 < w1.heap.size := by omega
  have hbi := (ht.block (w.heap.size + 1) (by simp) (fun f => f)).trans HBI.out
  have i5 : w1.cell? ⟨w.heap.size + 1, 5, none⟩ = some (.int .i64 mo) := by rw [cell_of_row w1 _ 5 _ _ (0, 0) hbi]; rfl
  have i6 : w1.cell? ⟨w.heap.size + 1, 6, none⟩ = some (.int .i64 lo) := by rw [cell_of_row w1 _ 6 _ _ (0, 0) hbi]; rfl
  have HT1 := Lib.hid (HBT.out.next ht (fun _ _ f => f))
  have hba := Blk2.new w1 (.string ⟨s2.bs.toArray⟩) (.int .i64 s2.e)
  have hbb := hb1.still ((Turns.refl _ _).alloc (.cells #[.string ⟨s2.bs.toArray⟩, .int .i64 s2.e] 42))
  have HBA := Lib.hid hba
  have HBB := Lib.hid hbb
  have HBI := Lib.hid (((Turns.refl (fun _ => False) w1).alloc (.cells #[.string ⟨s2.bs.toArray⟩, .int .i64 s2.e] 42)).drew.block (w.heap.size + 1) (by omega) (fun f => f) |>.trans hbi)
  have HRD := Lib.hid (HH.out.still ((HT1.out.alloc (.cells #[.string ⟨s2.bs.toArray⟩, .int .i64 s2.e] 42)).drew))
  clear hb1 ht HB HBT HK hba hbb hbi
  unfold refV
  go_wp2_with fail
  go_region_with (go_at_call 29; refine (HA.out _ HRD.out).mono ?_; rintro e' wn ⟨rfl, hwn⟩; have hBA := HBA.out.turns hwn.2.undrew (by omega); have hBB := HBB.out.turns hwn.2.undrew (by omega); have ca0 := hBA.c0; have ca1 := hBA.c1; have cb0 := hBB.c0; have cb1 := hBB.c1; have fb := hBB.fr; have HBB2 := Lib.hid hBB; have hbn := (hwn.2.block (w.heap.size + 1) (by simp; omega) (by omega)).trans HBI.out; have j5 : wn.cell? ⟨w.heap.size + 1, 5, none⟩ = some (.int .i64 mo) := (by rw [cell_of_row wn _ 5 _ _ (0, 0) hbn]; rfl); have j6 : wn.cell? ⟨w.heap.size + 1, 6, none⟩ = some (.int .i64 lo) := (by rw [cell_of_row wn _ 6 _ _ (0, 0) hbn]; rfl); have HWN := Lib.hid hwn; clear hwn hBA hBB hbn)
  all_goals
    go_wp2
    have r0 := (HBB2.out.set (a' := .string ⟨s2.bs.toArray⟩) (b' := .int .i64 s2.e)).c0
    have r1 := (HBB2.out.set (a' := .string ⟨s2.bs.toArray⟩) (b' := .int .i64 s2.e)).c1
    exact bodyPost_ret (v := .tuple #[.agg #[.string ⟨s2.bs.toArray⟩, .int .i64 s2.e], .bool true]) (by simp [results, Try.results16, go_sem, r0, r1]) rfl ⟨rfl, got_end (HT1.out.alloc _).drew HWN.out HBB2.out (by omega) (by omega) _ _⟩

set_option maxRecDepth 100000 in
set_option maxHeartbeats 4000000 in
theorem get4 (R : Nat) (st : St) (kd x : Nat) (is : Bool) (t : ByteArray) (la : Option Addr) (n lc : Nat) (mo lo ee : Int) (w : World) (h : Rdr w R st) (hok : Ok st) (hl : st.bs.length ≤ 1099511627776) (hr : kd % 9 = 4) :
    Calls Try.prog 16 #[.pointer (some ⟨R, 0, none⟩), refV st, .agg #[.int .u8 kd, .int .u64 x, .bool is, .string t, .slice la n lc, .int .i64 mo, .int .i64 lo, .int .i64 ee]] w (Got w R (truthS st).1) := by
  have hkr : (kd : Int) % 9 = 4 := by omega
  have HH := Lib.hid h
  have hRlt := h.lt
  have HK := Lib.hid (fun W => gettruth_calls st W hok hl)
  have HA := Lib.hid (fun W (h : Rdr W R st) => rtruth_calls R st W h hl)
  clear hok hl hr h
  generalize (truthS st).2 = y at *
  generalize (truthS st).1 = s2 at *
  obtain ⟨l, e⟩ := st
  unfold refV at HK
  unfold refV
  dsimp only at *
  generalize ByteArray.mk l.toArray = s at *
  obtain ⟨b0, b1, b2⟩ := boxG_facts w s e kd x is t la n lc mo lo ee
  have HB := Lib.hid b0
  have HBT := Lib.hid b1
  have HBI := Lib.hid b2
  clear b0 b1 b2
  go_enter Try.func16, Try.ntmps16
  go_wp2_with fail
  with_reducible refine (HK.out _).mono ?_
  rintro e' w1 ⟨rfl, ht⟩
  have hb1 := HB.out.still ht
  have hlt : w.heap.size + 1 + 1 < w1.heap.size := hb1.lt
  have hlt1 : w.heap.size + 1 < w1.heap.size := by omega
  have hbi := (ht.block (w.heap.size + 1) (by simp) (fun f => f)).trans HBI.out
  have i5 : w1.cell? ⟨w.heap.size + 1, 5, none⟩ = some (.int .i64 mo) := by rw [cell_of_row w1 _ 5 _ _ (0, 0) hbi]; rfl
  have i6 : w1.cell? ⟨w.heap.size + 1, 6, none⟩ = some (.int .i64 lo) := by rw [cell_of_row w1 _ 6 _ _ (0, 0) hbi]; rfl
  have HT1 := Lib.hid (HBT.out.next ht (fun _ _ f => f))
  have hba := Blk2.new w1 (.string ⟨s2.bs.toArray⟩) (.int .i64 s2.e)
  have hbb := hb1.still ((Turns.refl _ _).alloc (.cells #[.string ⟨s2.bs.toArray⟩, .int .i64 s2.e] 42))
  have HBA := Lib.hid hba
  have HBB := Lib.hid hbb
  have HBI := Lib.hid (((Turns.refl (fun _ => False) w1).alloc (.cells #[.string ⟨s2.bs.toArray⟩, .int .i64 s2.e] 42)).drew.block (w.heap.size + 1) (by omega) (fun f => f) |>.trans hbi)
  have HRD := Lib.hid (HH.out.still ((HT1.out.alloc (.cells #[.string ⟨s2.bs.toArray⟩, .int .i64 s2.e] 42)).drew))
  clear hb1 ht HB HBT HK hba hbb hbi
  unfold refV
  go_wp2_with fail
  go_region_with (go_at_call 30; refine (HA.out _ HRD.out).mono ?_; rintro e' wn ⟨rfl, hwn⟩; have hBA := HBA.out.turns hwn.2.undrew (by omega); have hBB := HBB.out.turns hwn.2.undrew (by omega); have ca0 := hBA.c0; have ca1 := hBA.c1; have cb0 := hBB.c0; have cb1 := hBB.c1; have fb := hBB.fr; have HBB2 := Lib.hid hBB; have hbn := (hwn.2.block (w.heap.size + 1) (by simp; omega) (by omega)).trans HBI.out; have j5 : wn.cell? ⟨w.heap.size + 1, 5, none⟩ = some (.int .i64 mo) := (by rw [cell_of_row wn _ 5 _ _ (0, 0) hbn]; rfl); have j6 : wn.cell? ⟨w.heap.size + 1, 6, none⟩ = some (.int .i64 lo) := (by rw [cell_of_row wn _ 6 _ _ (0, 0) hbn]; rfl); have HWN := Lib.hid hwn; clear hwn hBA hBB hbn)
  all_goals
    go_wp2
    have r0 := (HBB2.out.set (a' := .string ⟨s2.bs.toArray⟩) (b' := .int .i64 s2.e)).c0
    have r1 := (HBB2.out.set (a' := .string ⟨s2.bs.toArray⟩) (b' := .int .i64 s2.e)).c1
    exact bodyPost_ret (v := .tuple #[.agg #[.string ⟨s2.bs.toArray⟩, .int .i64 s2.e], .bool true]) (by simp [results, Try.results16, go_sem, r0, r1]) rfl ⟨rfl, got_end (HT1.out.alloc _).drew HWN.out HBB2.out (by omega) (by omega) _ _⟩

set_option maxRecDepth 100000 in
set_option maxHeartbeats 4000000 in
theorem get5 (R : Nat) (st : St) (kd x : Nat) (is : Bool) (t : ByteArray) (la : Option Addr) (n lc : Nat) (mo lo ee : Int) (w : World) (h : Rdr w R st) (hok : Ok st) (hl : st.bs.length ≤ 1099511627776) (hr : kd % 9 = 5) :
    Calls Try.prog 16 #[.pointer (some ⟨R, 0, none⟩), refV st, .agg #[.int .u8 kd, .int .u64 x, .bool is, .string t, .slice la n lc, .int .i64 mo, .int .i64 lo, .int .i64 ee]] w (Got w R (textS st mo).1) := by
  have hkr : (kd : Int) % 9 = 5 := by omega
  have HH := Lib.hid h
  have hRlt := h.lt
  have HK := Lib.hid (fun W => gettext_calls st mo W hok hl)
  have HA := Lib.hid (fun W (h : Rdr W R st) => rtext_calls R st mo W h hl)
  clear hok hl hr h
  generalize (textS st mo).2 = y at *
  generalize (textS st mo).1 = s2 at *
  obtain ⟨l, e⟩ := st
  unfold refV at HK
  unfold refV
  dsimp only at *
  generalize ByteArray.mk l.toArray = s at *
  obtain ⟨b0, b1, b2⟩ := boxG_facts w s e kd x is t la n lc mo lo ee
  have HB := Lib.hid b0
  have HBT := Lib.hid b1
  have HBI := Lib.hid b2
  clear b0 b1 b2
  go_enter Try.func16, Try.ntmps16
  go_wp2_with fail
  with_reducible refine (HK.out _).mono ?_
  rintro e' w1 ⟨rfl, ht⟩
  have hb1 := HB.out.still ht
  have hlt : w.heap.size + 1 + 1 < w1.heap.size := hb1.lt
  have hlt1 : w.heap.size + 1 < w1.heap.size := by omega
  have hbi := (ht.block (w.heap.size + 1) (by simp) (fun f => f)).trans HBI.out
  have i5 : w1.cell? ⟨w.heap.size + 1, 5, none⟩ = some (.int .i64 mo) := by rw [cell_of_row w1 _ 5 _ _ (0, 0) hbi]; rfl
  have i6 : w1.cell? ⟨w.heap.size + 1, 6, none⟩ = some (.int .i64 lo) := by rw [cell_of_row w1 _ 6 _ _ (0, 0) hbi]; rfl
  have HT1 := Lib.hid (HBT.out.next ht (fun _ _ f => f))
  have hba := Blk2.new w1 (.string ⟨s2.bs.toArray⟩) (.int .i64 s2.e)
  have hbb := hb1.still ((Turns.refl _ _).alloc (.cells #[.string ⟨s2.bs.toArray⟩, .int .i64 s2.e] 42))
  have HBA := Lib.hid hba
  have HBB := Lib.hid hbb
  have HBI := Lib.hid (((Turns.refl (fun _ => False) w1).alloc (.cells #[.string ⟨s2.bs.toArray⟩, .int .i64 s2.e] 42)).drew.block (w.heap.size + 1) (by omega) (fun f => f) |>.trans hbi)
  have HRD := Lib.hid (HH.out.still ((HT1.out.alloc (.cells #[.string ⟨s2.bs.toArray⟩, .int .i64 s2.e] 42)).drew))
  clear hb1 ht HB HBT HK hba hbb hbi
  unfold refV
  go_wp2_with fail
  go_region_with (go_at_call 31; refine (HA.out _ HRD.out).mono ?_; rintro e' wn ⟨rfl, hwn⟩; have hBA := HBA.out.turns hwn.2.undrew (by omega); have hBB := HBB.out.turns hwn.2.undrew (by omega); have ca0 := hBA.c0; have ca1 := hBA.c1; have cb0 := hBB.c0; have cb1 := hBB.c1; have fb := hBB.fr; have HBB2 := Lib.hid hBB; have hbn := (hwn.2.block (w.heap.size + 1) (by simp; omega) (by omega)).trans HBI.out; have j5 : wn.cell? ⟨w.heap.size + 1, 5, none⟩ = some (.int .i64 mo) := (by rw [cell_of_row wn _ 5 _ _ (0, 0) hbn]; rfl); have j6 : wn.cell? ⟨w.heap.size + 1, 6, none⟩ = some (.int .i64 lo) := (by rw [cell_of_row wn _ 6 _ _ (0, 0) hbn]; rfl); have HWN := Lib.hid hwn; clear hwn hBA hBB hbn)
  all_goals
    go_wp2
    have r0 := (HBB2.out.set (a' := .string ⟨s2.bs.toArray⟩) (b' := .int .i64 s2.e)).c0
    have r1 := (HBB2.out.set (a' := .string ⟨s2.bs.toArray⟩) (b' := .int .i64 s2.e)).c1
    exact bodyPost_ret (v := .tuple #[.agg #[.string ⟨s2.bs.toArray⟩, .int .i64 s2.e], .bool true]) (by simp [results, Try.results16, go_sem, r0, r1]) rfl ⟨rfl, got_end (HT1.out.alloc _).drew HWN.out HBB2.out (by omega) (by omega) _ _⟩

set_option maxRecDepth 100000 in
set_option maxHeartbeats 4000000 in
theorem get6 (R : Nat) (st : St) (kd x : Nat) (is : Bool) (t : ByteArray) (la : Option Addr) (n lc : Nat) (mo lo ee : Int) (w : World) (h : Rdr w R st) (hok : Ok st) (hl : st.bs.length ≤ 1099511627776) (hr : kd % 9 = 6) :
    Calls Try.prog 16 #[.pointer (some ⟨R, 0, none⟩), refV st, .agg #[.int .u8 kd, .int .u64 x, .bool is, .string t, .slice la n lc, .int .i64 mo, .int .i64 lo, .int .i64 ee]] w (Got w R (rowS st mo lo).1) := by
  have hkr : (kd : Int) % 9 = 6 := by omega
  have HH := Lib.hid h
  have hRlt := h.lt
  have HK := Lib.hid (fun W => getrow_calls st mo lo W hok hl)
  have HA := Lib.hid (fun W (h : Rdr W R st) => rrow_calls R st mo lo W h hl)
  have hys := rowS_length st mo lo
  clear hok hl hr h
  generalize (rowS st mo lo).2 = y at *
  generalize (rowS st mo lo).1 = s2 at *
  obtain ⟨l, e⟩ := st
  unfold refV at HK
  unfold refV
  dsimp only at *
  generalize ByteArray.mk l.toArray = s at *
  obtain ⟨b0, b1, b2⟩ := boxG_facts w s e kd x is t la n lc mo lo ee
  have HB := Lib.hid b0
  have HBT := Lib.hid b1
  have HBI := Lib.hid b2
  clear b0 b1 b2
  go_enter Try.func16, Try.ntmps16
  go_wp2_with fail
  with_reducible refine (HK.out _).mono ?_
  rintro e' w1 ⟨A1, c1, rfl, hrs, ht⟩
  have HRS := Lib.hid hrs
  clear hrs
  have hb1 := HB.out.still ht
  have hlt : w.heap.size + 1 + 1 < w1.heap.size := hb1.lt
  have hlt1 : w.heap.size + 1 < w1.heap.size := by omega
  have hbi := (ht.block (w.heap.size + 1) (by simp) (fun f => f)).trans HBI.out
  have i5 : w1.cell? ⟨w.heap.size + 1, 5, none⟩ = some (.int .i64 mo) := by rw [cell_of_row w1 _ 5 _ _ (0, 0) hbi]; rfl
  have i6 : w1.cell? ⟨w.heap.size + 1, 6, none⟩ = some (.int .i64 lo) := by rw [cell_of_row w1 _ 6 _ _ (0, 0) hbi]; rfl
  have HT1 := Lib.hid (HBT.out.next ht (fun _ _ f => f))
  have hba := Blk2.new w1 (.string ⟨s2.bs.toArray⟩) (.int .i64 s2.e)
  have hbb := hb1.still ((Turns.refl _ _).alloc (.cells #[.string ⟨s2.bs.toArray⟩, .int .i64 s2.e] 42))
  have HBA := Lib.hid hba
  have HBB := Lib.hid hbb
  have HBI := Lib.hid (((Turns.refl (fun _ => False) w1).alloc (.cells #[.string ⟨s2.bs.toArray⟩, .int .i64 s2.e] 42)).drew.block (w.heap.size + 1) (by omega) (fun f => f) |>.trans hbi)
  have HRD := Lib.hid (HH.out.still ((HT1.out.alloc (.cells #[.string ⟨s2.bs.toArray⟩, .int .i64 s2.e] 42)).drew))
  clear hb1 ht HB HBT HK hba hbb hbi
  unfold refV
  go_wp2_with fail
  go_region_with (first
    | (go_at_call 32; refine (HA.out _ HRD.out).mono ?_; rintro e' wn ⟨A2, c2, rfl, hrs2, hne2, hwn⟩; have hBA := HBA.out.turns hwn.2.undrew (by omega); have hBB := HBB.out.turns hwn.2.undrew (by omega); have ca0 := hBA.c0; have ca1 := hBA.c1; have cb0 := hBB.c0; have cb1 := hBB.c1; have fb := hBB.fr; have HBB2 := Lib.hid hBB; have hbn := (hwn.2.block (w.heap.size + 1) (by simp; omega) (by omega)).trans HBI.out; have j5 : wn.cell? ⟨w.heap.size + 1, 5, none⟩ = some (.int .i64 mo) := (by rw [cell_of_row wn _ 5 _ _ (0, 0) hbn]; rfl); have j6 : wn.cell? ⟨w.heap.size + 1, 6, none⟩ = some (.int .i64 lo) := (by rw [cell_of_row wn _ 6 _ _ (0, 0) hbn]; rfl); have HS1 := Lib.hid ((HRS.out.still ((Turns.refl _ _).alloc _).drew).turns hwn.2 (fun hne a ha he => (HRS.out.still ((Turns.refl _ _).alloc _).drew).ne_reader HRD.out hne a ha he)); have HS2 := Lib.hid hrs2; have HBA3 := Lib.hid hBA; have HWN := Lib.hid hwn; clear hwn hBA hBB hbn hrs2 hne2)
    | (go_at_call 12; refine (same_calls A2 A1 c2 c1 y y _ HS2.out HS1.out (by omega)).mono ?_; rintro e' wm ⟨rfl, hwm⟩; rw [sameB_self]; have hBB3 := HBB2.out.still hwm; have ca0' := (HBA3.out.still hwm).c0; have ca1' := (HBA3.out.still hwm).c1; have cb0' := hBB3.c0; have cb1' := hBB3.c1; have fb' := hBB3.fr; have HBB3 := Lib.hid hBB3; have HWM := Lib.hid hwm; clear hwm hBB3))
  all_goals
    go_wp2
    have r0 := (HBB3.out.set (a' := .string ⟨s2.bs.toArray⟩) (b' := .int .i64 s2.e)).c0
    have r1 := (HBB3.out.set (a' := .string ⟨s2.bs.toArray⟩) (b' := .int .i64 s2.e)).c1
    exact bodyPost_ret (v := .tuple #[.agg #[.string ⟨s2.bs.toArray⟩, .int .i64 s2.e], .bool true]) (by simp [results, Try.results16, go_sem, r0, r1]) rfl ⟨rfl, got_end (HT1.out.alloc _).drew (HWN.out.then_still HWM.out) HBB3.out (by omega) (by omega) _ _⟩

set_option maxRecDepth 100000 in
set_option maxHeartbeats 4000000 in
theorem get7 (R : Nat) (st : St) (kd x : Nat) (is : Bool) (t : ByteArray) (la : Option Addr) (n lc : Nat) (mo lo ee : Int) (w : World) (h : Rdr w R st) (hok : Ok st) (hl : st.bs.length ≤ 1099511627776) (hr : kd % 9 = 7) (hmo : mo ≤ 9223372036854775807) :
    Calls Try.prog 16 #[.pointer (some ⟨R, 0, none⟩), refV st, .agg #[.int .u8 kd, .int .u64 x, .bool is, .string t, .slice la n lc, .int .i64 mo, .int .i64 lo, .int .i64 ee]] w (Got w R (rawS st mo).1) := by
  have hkr : (kd : Int) % 9 = 7 := by omega
  have HH := Lib.hid h
  have hRlt := h.lt
  have HRW : Hid (rawS st mo = takeS st (max mo 0).toNat) := rfl
  have HK := Lib.hid (fun W ni (e : ni = (((max mo 0).toNat : Nat) : Int)) => take_at st ni (max mo 0).toNat W hok hl (by omega) e)
  have HA := Lib.hid (fun W (h : Rdr W R st) => rraw_calls R st mo W h hl hmo)
  rw [HRW.out] at HA ⊢
  have hyl : (takeS st (max mo 0).toNat).2.length ≤ 1099511627776 := by
    have := takeS_few st (max mo 0).toNat
    omega
  have HRS : Hid (∀ (W : World) (v : Value) (l : List UInt8), Rd W v l → (convert 30 9 v).run Try.prog W = .ok (.string ⟨l.toArray⟩) W) := fun W v l h => h.string Try.underlying30 Try.underlying5 Try.underlying9
  clear HRW
  clear hok hl hr h
  generalize (takeS st (max mo 0).toNat).2 = y at *
  generalize (takeS st (max mo 0).toNat).1 = s2 at *
  obtain ⟨l, e⟩ := st
  unfold refV at HK
  unfold refV
  dsimp only at *
  generalize ByteArray.mk l.toArray = s at *
  obtain ⟨b0, b1, b2⟩ := boxG_facts w s e kd x is t la n lc mo lo ee
  have HB := Lib.hid b0
  have HBT := Lib.hid b1
  have HBI := Lib.hid b2
  clear b0 b1 b2
  have hm : 0 < mo ∨ ¬ 0 < mo := by omega
  rcases hm with hm | hm
  all_goals
    go_enter Try.func16, Try.ntmps16
    go_wp2_with fail
    with_reducible refine (HK.out _ _ (by omega)).mono ?_
    rintro e' w1 ⟨b, rfl, ht⟩
    have hb1 := HB.out.still ht
    have hlt : w.heap.size + 1 + 1 < w1.heap.size := hb1.lt
    have hlt1 : w.heap.size + 1 < w1.heap.size := by omega
    have hbi := (ht.block (w.heap.size + 1) (by simp) (fun f => f)).trans HBI.out
    have i5 : w1.cell? ⟨w.heap.size + 1, 5, none⟩ = some (.int .i64 mo) := by rw [cell_of_row w1 _ 5 _ _ (0, 0) hbi]; rfl
    have i6 : w1.cell? ⟨w.heap.size + 1, 6, none⟩ = some (.int .i64 lo) := by rw [cell_of_row w1 _ 6 _ _ (0, 0) hbi]; rfl
    have HT1 := Lib.hid (HBT.out.next ht (fun _ _ f => f))
    have hba := Blk2.new w1 (.string ⟨s2.bs.toArray⟩) (.int .i64 s2.e)
    have hbb := hb1.still ((Turns.refl _ _).alloc (.cells #[.string ⟨s2.bs.toArray⟩, .int .i64 s2.e] 42))
    have HBA := Lib.hid hba
    have HBB := Lib.hid hbb
    have HBI := Lib.hid (((Turns.refl (fun _ => False) w1).alloc (.cells #[.string ⟨s2.bs.toArray⟩, .int .i64 s2.e] 42)).drew.block (w.heap.size + 1) (by omega) (fun f => f) |>.trans hbi)
    have HRD := Lib.hid (HH.out.still ((HT1.out.alloc (.cells #[.string ⟨s2.bs.toArray⟩, .int .i64 s2.e] 42)).drew))
    clear hb1 ht HB HBT HK hba hbb hbi
    unfold refV
    go_wp2_with fail
    go_region_with (go_at_call 33; refine (HA.out _ HRD.out).mono ?_; rintro e' wn ⟨v, rfl, hrv, hnv, hwn⟩; have hBA := HBA.out.turns hwn.2.undrew (by omega); have hBB := HBB.out.turns hwn.2.undrew (by omega); have ca0 := hBA.c0; have ca1 := hBA.c1; have cb0 := hBB.c0; have cb1 := hBB.c1; have fb := hBB.fr; have HBB2 := Lib.hid hBB; have hbn := (hwn.2.block (w.heap.size + 1) (by simp; omega) (by omega)).trans HBI.out; have j5 : wn.cell? ⟨w.heap.size + 1, 5, none⟩ = some (.int .i64 mo) := (by rw [cell_of_row wn _ 5 _ _ (0, 0) hbn]; rfl); have j6 : wn.cell? ⟨w.heap.size + 1, 6, none⟩ = some (.int .i64 lo) := (by rw [cell_of_row wn _ 6 _ _ (0, 0) hbn]; rfl); have hcv := HRS.out wn v y hrv; have hcv2 := HRS.out _ v y (hrv.far hBB (.string ⟨s2.bs.toArray⟩) (.int .i64 s2.e)); obtain ⟨A2, c2, rfl⟩ := hrv.shape; have HWN := Lib.hid hwn; clear hwn hBA hBB hbn hrv hnv)
    all_goals
      go_wp2
      have r0 := (HBB2.out.set (a' := .string ⟨s2.bs.toArray⟩) (b' := .int .i64 s2.e)).c0
      have r1 := (HBB2.out.set (a' := .string ⟨s2.bs.toArray⟩) (b' := .int .i64 s2.e)).c1
      exact bodyPost_ret (v := .tuple #[.agg #[.string ⟨s2.bs.toArray⟩, .int .i64 s2.e], .bool true]) (by simp [results, Try.results16, go_sem, r0, r1]) rfl ⟨rfl, got_end (HT1.out.alloc _).drew HWN.out HBB2.out (by omega) (by omega) _ _⟩

set_option maxRecDepth 100000 in
set_option maxHeartbeats 4000000 in
theorem get8 (R : Nat) (st : St) (kd x : Nat) (is : Bool) (t : ByteArray) (la : Option Addr) (n lc : Nat) (mo lo ee : Int) (w : World) (h : Rdr w R st) (hr : kd % 9 = 8) :
    Calls Try.prog 16 #[.pointer (some ⟨R, 0, none⟩), refV st, .agg #[.int .u8 kd, .int .u64 x, .bool is, .string t, .slice la n lc, .int .i64 mo, .int .i64 lo, .int .i64 ee]] w (Got w R (failS st (bits .and .i64 ee 15))) := by
  have hkr : (kd : Int) % 9 = 8 := by omega
  have HH := Lib.hid h
  have hRlt := h.lt
  have HA := Lib.hid (fun W (h : Rdr W R st) => fail_calls R st (bits .and .i64 ee 15) W h)
  have HK := Lib.hid (fun W => reffail_calls st (bits .and .i64 ee 15) W)
  clear h hr
  generalize failS st (bits .and .i64 ee 15) = s2 at *
  obtain ⟨l, e⟩ := st
  unfold refV at HK
  unfold refV
  dsimp only at *
  generalize ByteArray.mk l.toArray = s at *
  obtain ⟨b0, b1, b2⟩ := boxG_facts w s e kd x is t la n lc mo lo ee
  have HBP := Lib.hid (boxG_param w s e kd x is t la n lc mo lo ee)
  have HB := Lib.hid b0
  have HBT := Lib.hid b1
  have HBI := Lib.hid b2
  have HRD := Lib.hid (HH.out.still b1)
  clear b0 b1 b2
  go_enter Try.func16, Try.ntmps16
  go_wp2_with fail
  with_reducible refine (HA.out _ HRD.out).mono ?_
  rintro e' w1 ⟨rfl, hwn⟩
  have hbn := (hwn.2.block (w.heap.size + 1) (by simp) (by omega)).trans HBI.out
  have j7 : w1.cell? ⟨w.heap.size + 1, 7, none⟩ = some (.int .i64 ee) := by rw [cell_of_row w1 _ 7 _ _ (0, 0) hbn]; rfl
  have hbp := HBP.out.turns hwn.2 (by omega)
  have p0 := hbp.c0
  have p1 := hbp.c1
  have HB1 := Lib.hid (HB.out.turns hwn.2 (by omega))
  have HWN := Lib.hid hwn
  clear hwn hbn hbp HBP HB HBI HRD HH
  go_wp2_with fail
  with_reducible refine (HK.out _).mono ?_
  rintro e' w2 ⟨rfl, ht⟩
  have hb2 := HB1.out.still ht
  have c0 := hb2.c0
  have c1 := hb2.c1
  have f2 := hb2.fr
  have HB2 := Lib.hid hb2
  have HW2 := Lib.hid (HWN.out.then_still ht)
  clear ht hb2
  unfold refV
  go_wp2
  have r0 := (HB2.out.set (a' := .string ⟨s2.bs.toArray⟩) (b' := .int .i64 s2.e)).c0
  have r1 := (HB2.out.set (a' := .string ⟨s2.bs.toArray⟩) (b' := .int .i64 s2.e)).c1
  exact bodyPost_ret (v := .tuple #[.agg #[.string ⟨s2.bs.toArray⟩, .int .i64 s2.e], .bool true]) (by simp [results, Try.results16, go_sem, r0, r1]) rfl ⟨rfl, got_end HBT.out HW2.out HB2.out (by omega) (by omega) _ _⟩

/-- What is left behind an ask. -/
def askS (kd : Nat) (mo lo ee : Int) (st : St) : St :=
  match kd % 9 with
  | 0 => (numS st 1).1
  | 1 => (numS st 2).1
  | 2 => (numS st 4).1
  | 3 => (numS st 8).1
  | 4 => (truthS st).1
  | 5 => (textS st mo).1
  | 6 => (rowS st mo lo).1
  | 7 => (rawS st mo).1
  | _ => failS st (bits .and .i64 ee 15)
theorem truthS_left (st : St) : (truthS st).1.bs.length ≤ st.bs.length := by
  unfold truthS
  split
  · exact Nat.le_trans (failS_length _ _) (numS_left st 1)
  · exact numS_left st 1
theorem askS_left (kd : Nat) (mo lo ee : Int) (st : St) : (askS kd mo lo ee st).bs.length ≤ st.bs.length := by
  unfold askS
  split
  · exact numS_left st 1
  · exact numS_left st 2
  · exact numS_left st 4
  · exact numS_left st 8
  · exact truthS_left st
  · exact textS_left st mo
  · exact rowS_left st mo lo
  · exact takeS_left st _
  · exact failS_length st _
theorem askS_ok (kd : Nat) (mo lo ee : Int) (st : St) (h : Ok st) : Ok (askS kd mo lo ee st) := by
  unfold askS
  split
  · exact h.num 1
  · exact h.num 2
  · exact h.num 4
  · exact h.num 8
  · exact h.truth
  · exact h.text mo
  · exact h.row mo lo
  · exact h.take _
  · exact h.fail _
theorem gets (R : Nat) (st : St) (kd x : Nat) (is : Bool) (t : ByteArray) (la : Option Addr) (n lc : Nat) (mo lo ee : Int) (w : World) (h : Rdr w R st) (hok : Ok st) (hl : st.bs.length ≤ 1099511627776) (hmo : mo ≤ 9223372036854775807) :
    Calls Try.prog 16 #[.pointer (some ⟨R, 0, none⟩), refV st, .agg #[.int .u8 kd, .int .u64 x, .bool is, .string t, .slice la n lc, .int .i64 mo, .int .i64 lo, .int .i64 ee]] w (Got w R (askS kd mo lo ee st)) := by
  have hm : kd % 9 < 9 := Nat.mod_lt _ (by omega)
  unfold askS
  rcases (by omega : kd % 9 = 0 ∨ kd % 9 = 1 ∨ kd % 9 = 2 ∨ kd % 9 = 3 ∨ kd % 9 = 4 ∨ kd % 9 = 5 ∨ kd % 9 = 6 ∨ kd % 9 = 7 ∨ kd % 9 = 8) with hr | hr | hr | hr | hr | hr | hr | hr | hr
  all_goals rw [hr]
  · exact get0 R st kd x is t la n lc mo lo ee w h hok hl hr
  · exact get1 R st kd x is t la n lc mo lo ee w h hok hl hr
  · exact get2 R st kd x is t la n lc mo lo ee w h hok hl hr
  · exact get3 R st kd x is t la n lc mo lo ee w h hok hl hr
  · exact get4 R st kd x is t la n lc mo lo ee w h hok hl hr
  · exact get5 R st kd x is t la n lc mo lo ee w h hok hl hr
  · exact get6 R st kd x is t la n lc mo lo ee w h hok hl hr
  · exact get7 R st kd x is t la n lc mo lo ee w h hok hl hr hmo
  · exact get8 R st kd x is t la n lc mo lo ee w h hr
end Go.Proofs.Ytgipafdfmghogaa
