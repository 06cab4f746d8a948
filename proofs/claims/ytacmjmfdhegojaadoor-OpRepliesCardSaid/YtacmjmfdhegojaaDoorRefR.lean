/-
  What the document's own reader does, function by function: the same as the plain model of the Reader, where an error leaves nothing.
  Conditions: at most 2^40 bytes.
-/
import Derived.Test.YtacmjmfdhegojaaDoorReadC
import Derived.Test.YtacmjmfdhegojaaDoorRef
import Derived.Test.YtacmjmfdhegojaaDoorRefV
import Derived.Deep.RegionHeld3
import Derived.Lib.IndexBytes
namespace Go.Proofs.YtacmjmfdhegojaaDoor
open Go.RowKit

/-- With an error nothing is left. -/
def Ok (st : St) : Prop := st.e ≠ 0 → st.bs = []
/-- The document's reader, as a value. -/
def refV (st : St) : Value := .agg #[.string ⟨st.bs.toArray⟩, .int .i64 st.e]

/-- One reader is told. -/
def Ref1 (st : St) (w : World) (e : Ending) (w' : World) : Prop := e = .returned (refV st) ∧ Turns (fun _ => False) w w'
set_option maxRecDepth 100000 in
theorem reffail_calls (st : St) (ei : Int) (w : World) :
    Calls Tryd.prog 36 #[refV st, .int .i64 ei] w (Ref1 (failS st ei) w) := by
  obtain ⟨l, e⟩ := st
  unfold refV
  dsimp only
  by_cases h1 : e = 0
  · by_cases h0 : ei = 0
    · have HF : Hid (failS ⟨l, e⟩ ei = ⟨l, e⟩) := by simp [failS, h0, Hid]
      rw [HF.out]
      have d1 : (e != 0) = false := by simpa using h1
      have d0 : (ei == 0) = true := by simpa using h0
      clear h0 h1
      go_enter Tryd.func36, Tryd.ntmps36
      go_wp2
      exact bodyPost_ret (v := .agg #[.string ⟨l.toArray⟩, .int .i64 e]) (by simp [results, Tryd.results36, go_sem]) rfl ⟨rfl, ((Turns.refl _ _).alloc _).alloc _⟩
    · have HF : Hid (failS ⟨l, e⟩ ei = ⟨[], ei⟩) := by simp [failS, h0, h1, Hid]
      rw [HF.out]
      have d1 : (e != 0) = false := by simpa using h1
      have d0 : (ei == 0) = false := by simpa using h0
      clear h0 h1
      go_enter Tryd.func36, Tryd.ntmps36
      go_wp2
      exact bodyPost_ret (v := .agg #[.string ⟨#[]⟩, .int .i64 ei]) (by simp [results, Tryd.results36, go_sem]) rfl ⟨rfl, ((Turns.refl _ _).alloc _).alloc _⟩
  · have HF : Hid (failS ⟨l, e⟩ ei = ⟨l, e⟩) := by simp [failS, h1, Hid]
    rw [HF.out]
    have d1 : (e != 0) = true := by simpa using h1
    clear h1
    go_enter Tryd.func36, Tryd.ntmps36
    go_wp2
    exact bodyPost_ret (v := .agg #[.string ⟨l.toArray⟩, .int .i64 e]) (by simp [results, Tryd.results36, go_sem]) rfl ⟨rfl, ((Turns.refl _ _).alloc _).alloc _⟩

/-- A reader, bytes and a truth are told. -/
def Ref3 (st : St) (l : List UInt8) (w : World) (e : Ending) (w' : World) : Prop := ∃ b, e = .returned (.tuple #[refV st, .string ⟨l.toArray⟩, .bool b]) ∧ Turns (fun _ => False) w w'
theorem extract_drop (s : ByteArray) (n : Nat) : s.extract n s.size = ⟨(s.data.toList.drop n).toArray⟩ := by
  apply ByteArray.ext
  apply Array.toList_inj.1
  rw [Lib.extract_data]
  rw [List.take_of_length_le (by rw [List.length_drop, bytes_length]; omega)]
theorem extract_take (s : ByteArray) (n : Nat) : s.extract 0 n = ⟨(s.data.toList.take n).toArray⟩ := by
  apply ByteArray.ext
  apply Array.toList_inj.1
  rw [Lib.extract_data]
  simp
/-- A block that holds one of the document's readers. -/
def Blk2 (w : World) (g : Nat) (a b : Value) : Prop := w.heap[g]? = some (.cells #[a, b] 73 (0, 0))
theorem Blk2.c0 {w : World} {g : Nat} {a b : Value} (h : Blk2 w g a b) : w.cell? ⟨g, 0, none⟩ = some a := by rw [cell_of_row w _ 0 _ _ (0, 0) h]; rfl
theorem Blk2.c1 {w : World} {g : Nat} {a b : Value} (h : Blk2 w g a b) : w.cell? ⟨g, 1, none⟩ = some b := by rw [cell_of_row w _ 1 _ _ (0, 0) h]; rfl
theorem Blk2.fr {w : World} {g : Nat} {a b : Value} (h : Blk2 w g a b) (i : Nat) : w.frozen? ⟨g, i, none⟩ = false := by unfold Blk2 at h; simp [World.frozen?, h]
theorem Blk2.lt {w : World} {g : Nat} {a b : Value} (h : Blk2 w g a b) : g < w.heap.size := (Array.getElem?_eq_some_iff.1 h).1
theorem Blk2.new (w : World) (a b : Value) : Blk2 (w.alloc (.cells #[a, b] 73)) w.heap.size a b := heap_alloc_new w _
theorem Blk2.turns {S : Nat → Prop} {w w' : World} {g : Nat} {a b : Value} (h : Blk2 w g a b) (ht : Turns S w w') (hn : ¬ S g) : Blk2 w' g a b := (ht.block g h.lt hn).trans h
theorem Blk2.still {w w' : World} {g : Nat} {a b : Value} (h : Blk2 w g a b) (ht : Turns (fun _ => False) w w') : Blk2 w' g a b := h.turns ht (fun f => f)
theorem Blk2.set {w : World} {g : Nat} {a b a' b' : Value} (h : Blk2 w g a b) : Blk2 ((w.setCell ⟨g, 0, none⟩ a').setCell ⟨g, 1, none⟩ b') g a' b' := by
  unfold Blk2 at *
  simp [World.setCell, Array.getElem?_modify, h]
theorem Blk2.far {w : World} {g g' : Nat} {a b : Value} (h : Blk2 w g a b) (hne : g ≠ g') (x y : Value) : Blk2 ((w.setCell ⟨g', 0, none⟩ x).setCell ⟨g', 1, none⟩ y) g a b :=
  h.turns (((Turns.refl (fun i => i = g') w).setCell (p := ⟨g', 0, none⟩) (fun _ => rfl) x).setCell (p := ⟨g', 1, none⟩) (fun _ => rfl) y) hne
abbrev boxR (w : World) (a b : Value) : World := w.alloc (.cells #[a, b] 73)
theorem Turns.set2 {a w : World} (h : Turns (fun _ => False) a w) {g : Nat} (hg : a.heap.size ≤ g) (x y : Value) : Turns (fun _ => False) a ((w.setCell ⟨g, 0, none⟩ x).setCell ⟨g, 1, none⟩ y) :=
  (h.setCell (p := ⟨g, 0, none⟩) (fun hlt => by simp at hlt; omega) x).setCell (p := ⟨g, 1, none⟩) (fun hlt => by simp at hlt; omega) y
theorem boxes (w : World) (a b c d : Value) : Blk2 (boxR (boxR w a b) c d) w.heap.size a b ∧ Blk2 (boxR (boxR w a b) c d) (w.heap.size + 1) c d ∧ Turns (fun _ => False) w (boxR (boxR w a b) c d) :=
  ⟨(Blk2.new w a b).still ((Turns.refl _ _).alloc _), by simpa using Blk2.new (boxR w a b) c d, ((Turns.refl _ _).alloc _).alloc _⟩

set_option maxRecDepth 100000 in
set_option maxHeartbeats 1000000 in
theorem take_calls (st : St) (n : Nat) (w : World) (hok : Ok st) (hl : st.bs.length ≤ 1099511627776) (hn : n ≤ 9223372036854775807) :
    Calls Tryd.prog 52 #[refV st, .int .i64 n] w (Ref3 (takeS st n).1 (takeS st n).2 w) := by
  by_cases hbad : st.e ≠ 0 ∨ st.bs.length < n
  · have HT : Hid (takeS st n = (failS st 2, [])) := by
      show takeS st n = (failS st 2, [])
      unfold takeS
      split
      · rfl
      · rename_i hs
        rcases hbad with hb | hb
        · have hnil := hok hb
          have hf : failS st 2 = st := by simp [failS, hb]
          rw [hf, hnil]
          simp
          rw [← hnil]
        · exact absurd hb hs
    rw [HT.out]
    have HF := Lib.hid (fun W => reffail_calls st 2 W)
    generalize failS st 2 = s2 at *
    obtain ⟨l, e⟩ := st
    unfold refV at HF ⊢
    dsimp only at *
    have hsz : (ByteArray.mk l.toArray).size = l.length := by rw [← bytes_length]
    generalize ByteArray.mk l.toArray = s at *
    have hcase : (e != 0) = true ∨ ((e != 0) = false ∧ s.size < n) := by
      by_cases h : e = 0
      · rcases hbad with hb | hb
        · exact absurd h hb
        · exact .inr ⟨by simpa using h, by omega⟩
      · exact .inl (by simpa using h)
    obtain ⟨b0, b1, bt⟩ := boxes w (.string s) (.int .i64 e) (.string ⟨#[]⟩) (.int .i64 0)
    have HB1 := Lib.hid b1
    have HBT := Lib.hid bt
    clear hbad hsz hok hl HT b0 b1 bt
    rcases hcase with d1 | ⟨d1, hs2⟩
    · go_enter Tryd.func52, Tryd.ntmps52
      go_wp2_with fail
      with_reducible refine (HF.out _).mono ?_
      rintro e' w1 ⟨rfl, ht⟩
      have hb := HB1.out.still ht
      have c0 := hb.c0
      have c1 := hb.c1
      have f0 := hb.fr
      have HT1 := Lib.hid (HBT.out.next ht (fun _ _ f => f))
      have HS := Lib.hid (hb.set (a' := .string ⟨s2.bs.toArray⟩) (b' := .int .i64 s2.e))
      clear ht hb HF HB1 HBT
      unfold refV
      go_wp2
      have r0 := HS.out.c0
      have r1 := HS.out.c1
      exact bodyPost_ret (v := .tuple #[.agg #[.string ⟨s2.bs.toArray⟩, .int .i64 s2.e], .string ⟨#[]⟩, .bool false]) (by simp [results, Tryd.results52, go_sem, r0, r1]) rfl ⟨false, rfl, HT1.out.set2 (by omega) _ _⟩
    · go_enter Tryd.func52, Tryd.ntmps52
      go_wp2_with fail
      with_reducible refine (HF.out _).mono ?_
      rintro e' w1 ⟨rfl, ht⟩
      have hb := HB1.out.still ht
      have c0 := hb.c0
      have c1 := hb.c1
      have f0 := hb.fr
      have HT1 := Lib.hid (HBT.out.next ht (fun _ _ f => f))
      have HS := Lib.hid (hb.set (a' := .string ⟨s2.bs.toArray⟩) (b' := .int .i64 s2.e))
      clear ht hb HF HB1 HBT
      unfold refV
      go_wp2
      have r0 := HS.out.c0
      have r1 := HS.out.c1
      exact bodyPost_ret (v := .tuple #[.agg #[.string ⟨s2.bs.toArray⟩, .int .i64 s2.e], .string ⟨#[]⟩, .bool false]) (by simp [results, Tryd.results52, go_sem, r0, r1]) rfl ⟨false, rfl, HT1.out.set2 (by omega) _ _⟩
  · have he : st.e = 0 := by
      by_cases h : st.e = 0
      · exact h
      · exact absurd (.inl h) hbad
    have hs : ¬ st.bs.length < n := fun h => hbad (.inr h)
    have HT : Hid (takeS st n = (⟨st.bs.drop n, 0⟩, st.bs.take n)) := by
      show takeS st n = _
      unfold takeS
      rw [if_neg hs, he]
    rw [HT.out]
    obtain ⟨l, e⟩ := st
    dsimp only at *
    subst he
    have hsz : (ByteArray.mk l.toArray).size = l.length := by rw [← bytes_length]
    have hx1 : (ByteArray.mk l.toArray).extract n (ByteArray.mk l.toArray).size = ⟨(l.drop n).toArray⟩ := by rw [extract_drop]
    have hx2 : (ByteArray.mk l.toArray).extract 0 n = ⟨(l.take n).toArray⟩ := by rw [extract_take]
    unfold refV
    dsimp only
    have hrv : refV ⟨l.drop n, 0⟩ = .agg #[.string ((ByteArray.mk l.toArray).extract n (ByteArray.mk l.toArray).size), .int .i64 0] := by rw [hx1]; rfl
    have HX2 := Lib.hid hx2
    have HRV := Lib.hid hrv
    clear hx1 hx2 hrv
    generalize ByteArray.mk l.toArray = s at *
    have hn1 : (n : Int) ≤ (s.size : Int) := by omega
    have hn0 : (0 : Int) ≤ (n : Int) := by omega
    have hng : ¬ ((s.size : Int) < (n : Int)) := by omega
    clear hbad hs hsz hok hl
    go_enter Tryd.func52, Tryd.ntmps52
    go_wp2
    go_region
    all_goals
      go_wp2
      exact bodyPost_ret (v := .tuple #[.agg #[.string (s.extract n s.size), .int .i64 0], .string (s.extract 0 n), .bool true]) (by simp [results, Tryd.results52, go_sem]) rfl ⟨true, by rw [HRV.out, ← HX2.out], (((Turns.refl _ _).alloc _).alloc _).drew⟩

/-- A reader and a number are told. -/
def Ref2 (st : St) (x : Nat) (w : World) (e : Ending) (w' : World) : Prop := e = .returned (.tuple #[refV st, .int .u64 x]) ∧ Turns (fun _ => False) w w'
set_option maxRecDepth 100000 in
set_option maxHeartbeats 1000000 in
theorem get_calls (st : St) (si : Int) (size : Nat) (w : World) (hok : Ok st) (hl : st.bs.length ≤ 1099511627776) (hsi : si = size) (hn : size ≤ 8) :
    Calls Tryd.prog 35 #[refV st, .int .i64 si] w (Ref2 (numS st size).1 (numS st size).2 w) := by
  subst hsi
  have hlen := takeS_length st size
  have HK := Lib.hid (fun W => take_calls st size W hok hl (by omega))
  have HNS : Hid (numS st size = ((takeS st size).1, val (takeS st size).2)) := rfl
  rw [HNS.out]
  clear HNS hok hl
  generalize (takeS st size).1 = s2 at *
  generalize (takeS st size).2 = t at *
  obtain ⟨l, e⟩ := st
  unfold refV at HK
  unfold refV
  dsimp only at *
  generalize ByteArray.mk l.toArray = s at *
  obtain ⟨b0, b1, bt⟩ := boxes w (.string s) (.int .i64 e) (.string ⟨#[]⟩) (.int .i64 0)
  have HB1 := Lib.hid b1
  have HBT := Lib.hid bt
  clear b0 b1 bt
  go_enter Tryd.func35, Tryd.ntmps35
  go_wp2_with fail
  with_reducible refine (HK.out _).mono ?_
  rintro e' w1 ⟨ok, rfl, ht⟩
  have hts : (ByteArray.mk t.toArray).size ≤ 8 := by rw [← bytes_length]; show t.length ≤ 8; omega
  have htd : (ByteArray.mk t.toArray).data.toList = t := rfl
  have HV := Lib.hid (fun W => value_calls (ByteArray.mk t.toArray) W hts)
  rw [htd] at HV
  have hb1 := HB1.out.still ht
  have hlt : w.heap.size + 1 < w1.heap.size := hb1.lt
  have HT1 := Lib.hid (HBT.out.next ht (fun _ _ f => f))
  generalize ByteArray.mk t.toArray = ts at *
  generalize hsb : ByteArray.mk s2.bs.toArray = sb at *
  have hrv : refV s2 = .agg #[.string sb, .int .i64 s2.e] := by rw [← hsb]; rfl
  have hb2 : ∀ o, Blk2 (w1.alloc o) (w.heap.size + 1) (.string ⟨#[]⟩) (.int .i64 0) := fun o => hb1.still ((Turns.refl _ _).alloc o)
  have c0 := fun o => (hb2 o).c0
  have c1 := fun o => (hb2 o).c1
  have f0 := fun o => (hb2 o).fr
  have c0' := hb1.c0
  have c1' := hb1.c1
  have f0' := hb1.fr
  have HS : Hid (Blk2 (((w1.setCell ⟨w.heap.size + 1, 0, none⟩ (.string sb)).setCell ⟨w.heap.size + 1, 1, none⟩ (.int .i64 s2.e)).alloc (.cells #[.string sb, .int .i64 s2.e] 73)) (w.heap.size + 1) (.string sb) (.int .i64 s2.e)) := hb1.set.still ((Turns.refl _ _).alloc _)
  have HRV := Lib.hid hrv
  rw [hrv]
  clear hts htd hb1 ht HB1 HBT HK hrv hsb hb2
  go_wp2_with fail
  go_region_with (go_at_call 53; refine (HV.out _).mono ?_; rintro e' w' ⟨rfl, rfl⟩)
  all_goals
    go_wp2
    have r0 := HS.out.c0
    have r1 := HS.out.c1
    exact bodyPost_ret (v := .tuple #[.agg #[.string sb, .int .i64 s2.e], .int .u64 (val t)]) (by simp [results, Tryd.results35, go_sem, r0, r1]) rfl ⟨by rw [HRV.out], ((HT1.out.set2 (by omega) _ _).alloc _).drew⟩
end Go.Proofs.YtacmjmfdhegojaaDoor
