/-
  What the document's own reader does, function by function: the same as the plain model of the Reader, where an error leaves nothing.
  Conditions: at most 2^40 bytes.
-/
import Derived.Test.YtgipafdfmghogaaReadC
import Derived.Test.YtgipafdfmghogaaRef
import Derived.Deep.RegionHeld3
import Derived.Lib.IndexBytes
namespace Go.Proofs.Ytgipafdfmghogaa
open Go.RowKit

/-- With an error nothing is left. -/
def Ok (st : St) : Prop := st.e ≠ 0 → st.bs = []
/-- The document's reader, as a value. -/
def refV (st : St) : Value := .agg #[.string ⟨st.bs.toArray⟩, .int .i64 st.e]

theorem val_drop (l : List UInt8) (j : Nat) (hj : j < l.length) : val (l.drop j) = l[j].toNat + 256 * val (l.drop (j + 1)) := by
  rw [List.drop_eq_getElem_cons hj, val]

theorem data_at (s : ByteArray) (j : Nat) (hj : j < s.size) : s.data.toList[j]'(by rw [bytes_length]; exact hj) = s[j] := rfl

set_option maxRecDepth 20000 in
theorem value_calls (s : ByteArray) (w : World) (hs : s.size ≤ 8) :
    Calls Try.prog 50 #[.string s] w fun e w' => e = .returned (.int .u64 (val s.data.toList)) ∧ w = w' := by
  have hbl := bytes_length s
  have HB := Lib.hid hbl
  clear hbl
  go_enter Try.func50, Try.ntmps50
  go_wp2
  go_loop [3, 4] (fun x i => ∃ k : Nat, k ≤ s.size ∧ i = .int .i64 ((k : Int) - 1) ∧ x = .int .u64 (val (s.data.toList.drop k))) (fun _ i => (intOf i + 1).toNat)
  case atStart => exact ⟨s.size, Nat.le_refl _, rfl, by rw [List.drop_of_length_le (by rw [HB.out]; omega)]; rfl⟩
  case round =>
    obtain ⟨k, hk, rfl, rfl⟩ := hrel
    rcases Nat.eq_zero_or_pos k with h0 | h0
    · subst h0
      go_wp2
      go_ret
      exact ⟨by simp, rfl⟩
    · obtain ⟨j, rfl⟩ : ∃ j, k = j + 1 := ⟨k - 1, by omega⟩
      have hv := val_drop s.data.toList j (by rw [HB.out]; omega)
      rw [data_at s j (by omega)] at hv
      have hlt := val_lt (s.data.toList.drop (j + 1))
      have hlt2 : val (s.data.toList.drop (j + 1)) < 72057594037927936 := by
        refine Nat.lt_of_lt_of_le hlt ?_
        have : 256 ^ (s.data.toList.drop (j + 1)).length ≤ 256 ^ 7 := Nat.pow_le_pow_right (by omega) (by rw [List.length_drop, HB.out]; omega)
        simpa using this
      have HV := Lib.hid hv
      clear hv hlt
      generalize val (s.data.toList.drop (j + 1)) = x at *
      have hcb : (s[j].toNat : Int) < 256 := by have := s[j].toNat_lt; omega
      have e1 : ((j + 1 : Nat) : Int) - 1 = (j : Int) := by omega
      rw [e1]
      have hw1 : IntKind.u64.wrap ((x : Int) * 256) = (x : Int) * 256 := by rw [IntKind.wrap_u64]; omega
      have hw2 : IntKind.u64.wrap ((x : Int) * 256 + (s[j].toNat : Int)) = (x : Int) * 256 + (s[j].toNat : Int) := by rw [IntKind.wrap_u64]; omega
      clear e1 hlt2
      go_wp2
      go_round
      case rel => exact ⟨j, by omega, by go_num, by rw [HV.out]; go_num⟩
      case measure => simp [intOf]
/-- One reader is told. -/
def Ref1 (st : St) (w : World) (e : Ending) (w' : World) : Prop := e = .returned (refV st) ∧ Turns (fun _ => False) w w'
theorem reffail_calls (st : St) (ei : Int) (w : World) :
    Calls Try.prog 45 #[refV st, .int .i64 ei] w (Ref1 (failS st ei) w) := by
  obtain ⟨l, e⟩ := st
  unfold refV
  dsimp only
  by_cases h1 : e = 0
  · by_cases h0 : ei = 0
    · have HF : Hid (failS ⟨l, e⟩ ei = ⟨l, e⟩) := by simp [failS, h0, Hid]
      rw [HF.out]
      have d1 : (e != 0) = false := by simpa using h1
      have d0 : (ei == 0) = true := by simpa using h0
      clear h0 h1
      go_enter Try.func45, Try.ntmps45
      go_wp2
      exact bodyPost_ret (v := .agg #[.string ⟨l.toArray⟩, .int .i64 e]) (by simp [results, Try.results45, go_sem]) rfl ⟨rfl, ((Turns.refl _ _).alloc _).alloc _⟩
    · have HF : Hid (failS ⟨l, e⟩ ei = ⟨[], ei⟩) := by simp [failS, h0, h1, Hid]
      rw [HF.out]
      have d1 : (e != 0) = false := by simpa using h1
      have d0 : (ei == 0) = false := by simpa using h0
      clear h0 h1
      go_enter Try.func45, Try.ntmps45
      go_wp2
      exact bodyPost_ret (v := .agg #[.string ⟨#[]⟩, .int .i64 ei]) (by simp [results, Try.results45, go_sem]) rfl ⟨rfl, ((Turns.refl _ _).alloc _).alloc _⟩
  · have HF : Hid (failS ⟨l, e⟩ ei = ⟨l, e⟩) := by simp [failS, h1, Hid]
    rw [HF.out]
    have d1 : (e != 0) = true := by simpa using h1
    clear h1
    go_enter Try.func45, Try.ntmps45
    go_wp2
    exact bodyPost_ret (v := .agg #[.string ⟨l.toArray⟩, .int .i64 e]) (by simp [results, Try.results45, go_sem]) rfl ⟨rfl, ((Turns.refl _ _).alloc _).alloc _⟩

/-- A reader, bytes and a truth are told. -/
def Ref3 (st : St) (l : List UInt8) (w : World) (e : Ending) (w' : World) : Prop := ∃ b, e = .returned (.tuple #[refV st, .string ⟨l.toArray⟩, .bool b]) ∧ Turns (fun _ => False) w w'
theorem extract_drop (s : ByteArray) (n : Nat) : s.extract n s.size = ⟨(s.data.toList.drop n).toArray⟩ := by
  apply ByteArray.ext
  apply Array.toList_inj.1
  rw [Lib.extract_data]
  rw [List.take_of_length_le (by rw [List.length_drop, bytes_length]; omega)]
theorem extract_take (s : ByteArray) (n : Nat) : s.extract 0 n = ⟨(s.data.toList.take n).toArray⟩ := by
  apply ByteArray.ext
  apply Array.toList_inj.1
  rw [Lib.extract_data]
  simp
/-- A block that holds one of the document's readers. -/
def Blk2 (w : World) (g : Nat) (a b : Value) : Prop := w.heap[g]? = some (.cells #[a, b] 42 (0, 0))
theorem Blk2.c0 {w : World} {g : Nat} {a b : Value} (h : Blk2 w g a b) : w.cell? ⟨g, 0, none⟩ = some a := by rw [cell_of_row w _ 0 _ _ (0, 0) h]; rfl
theorem Blk2.c1 {w : World} {g : Nat} {a b : Value} (h : Blk2 w g a b) : w.cell? ⟨g, 1, none⟩ = some b := by rw [cell_of_row w _ 1 _ _ (0, 0) h]; rfl
theorem Blk2.fr {w : World} {g : Nat} {a b : Value} (h : Blk2 w g a b) (i : Nat) : w.frozen? ⟨g, i, none⟩ = false := by unfold Blk2 at h; simp [World.frozen?, h]
theorem Blk2.lt {w : World} {g : Nat} {a b : Value} (h : Blk2 w g a b) : g < w.heap.size := (Array.getElem?_eq_some_iff.1 h).1
theorem Blk2.new (w : World) (a b : Value) : Blk2 (w.alloc (.cells #[a, b] 42)) w.heap.size a b := heap_alloc_new w _
theorem Blk2.turns {S : Nat → Prop} {w w' : World} {g : Nat} {a b : Value} (h : Blk2 w g a b) (ht : Turns S w w') (hn : ¬ S g) : Blk2 w' g a b := (ht.block g h.lt hn).trans h
theorem Blk2.still {w w' : World} {g : Nat} {a b : Value} (h : Blk2 w g a b) (ht : Turns (fun _ => False) w w') : Blk2 w' g a b := h.turns ht (fun f => f)
theorem Blk2.set {w : World} {g : Nat} {a b a' b' : Value} (h : Blk2 w g a b) : Blk2 ((w.setCell ⟨g, 0, none⟩ a').setCell ⟨g, 1, none⟩ b') g a' b' := by
  unfold Blk2 at *
  simp [World.setCell, Array.getElem?_modify, h]
theorem Blk2.far {w : World} {g g' : Nat} {a b : Value} (h : Blk2 w g a b) (hne : g ≠ g') (x y : Value) : Blk2 ((w.setCell ⟨g', 0, none⟩ x).setCell ⟨g', 1, none⟩ y) g a b :=
  h.turns (((Turns.refl (fun i => i = g') w).setCell (p := ⟨g', 0, none⟩) (fun _ => rfl) x).setCell (p := ⟨g', 1, none⟩) (fun _ => rfl) y) hne
abbrev boxR (w : World) (a b : Value) : World := w.alloc (.cells #[a, b] 42)
theorem Turns.set2 {a w : World} (h : Turns (fun _ => False) a w) {g : Nat} (hg : a.heap.size ≤ g) (x y : Value) : Turns (fun _ => False) a ((w.setCell ⟨g, 0, none⟩ x).setCell ⟨g, 1, none⟩ y) :=
  (h.setCell (p := ⟨g, 0, none⟩) (fun hlt => by simp at hlt; omega) x).setCell (p := ⟨g, 1, none⟩) (fun hlt => by simp at hlt; omega) y
theorem boxes (w : World) (a b c d : Value) : Blk2 (boxR (boxR w a b) c d) w.heap.size a b ∧ Blk2 (boxR (boxR w a b) c d) (w.heap.size + 1) c d ∧ Turns (fun _ => False) w (boxR (boxR w a b) c d) :=
  ⟨(Blk2.new w a b).still ((Turns.refl _ _).alloc _), by simpa using Blk2.new (boxR w a b) c d, ((Turns.refl _ _).alloc _).alloc _⟩

set_option maxHeartbeats 1000000 in
theorem take_calls (st : St) (n : Nat) (w : World) (hok : Ok st) (hl : st.bs.length ≤ 1099511627776) (hn : n ≤ 9223372036854775807) :
    Calls Try.prog 43 #[refV st, .int .i64 n] w (Ref3 (takeS st n).1 (takeS st n).2 w) := by
  by_cases hbad : st.e ≠ 0 ∨ st.bs.length < n
  · have HT : Hid (takeS st n = (failS st 2, [])) := by
      show takeS st n = (failS st 2, [])
      unfold takeS
      split
      · rfl
      · rename_i hs
        rcases hbad with hb | hb
        · have hnil := hok hb
          have hf : failS st 2 = st := by simp [failS, hb]
          rw [hf, hnil]
          simp
          rw [← hnil]
        · exact absurd hb hs
    rw [HT.out]
    have HF := Lib.hid (fun W => reffail_calls st 2 W)
    generalize failS st 2 = s2 at *
    obtain ⟨l, e⟩ := st
    unfold refV at HF ⊢
    dsimp only at *
    have hsz : (ByteArray.mk l.toArray).size = l.length := by rw [← bytes_length]
    generalize ByteArray.mk l.toArray = s at *
    have hcase : (e != 0) = true ∨ ((e != 0) = false ∧ s.size < n) := by
      by_cases h : e = 0
      · rcases hbad with hb | hb
        · exact absurd h hb
        · exact .inr ⟨by simpa using h, by omega⟩
      · exact .inl (by simpa using h)
    obtain ⟨b0, b1, bt⟩ := boxes w (.string s) (.int .i64 e) (.string ⟨#[]⟩) (.int .i64 0)
    have HB1 := Lib.hid b1
    have HBT := Lib.hid bt
    clear hbad hsz hok hl HT b0 b1 bt
    rcases hcase with d1 | ⟨d1, hs2⟩
    · go_enter Try.func43, Try.ntmps43
      go_wp2_with fail
      with_reducible refine (HF.out _).mono ?_
      rintro e' w1 ⟨rfl, ht⟩
      have hb := HB1.out.still ht
      have c0 := hb.c0
      have c1 := hb.c1
      have f0 := hb.fr
      have HT1 := Lib.hid (HBT.out.next ht (fun _ _ f => f))
      have HS := Lib.hid (hb.set (a' := .string ⟨s2.bs.toArray⟩) (b' := .int .i64 s2.e))
      clear ht hb HF HB1 HBT
      unfold refV
      go_wp2
      have r0 := HS.out.c0
      have r1 := HS.out.c1
      exact bodyPost_ret (v := .tuple #[.agg #[.string ⟨s2.bs.toArray⟩, .int .i64 s2.e], .string ⟨#[]⟩, .bool false]) (by simp [results, Try.results43, go_sem, r0, r1]) rfl ⟨false, rfl, HT1.out.set2 (by omega) _ _⟩
    · go_enter Try.func43, Try.ntmps43
      go_wp2_with fail
      with_reducible refine (HF.out _).mono ?_
      rintro e' w1 ⟨rfl, ht⟩
      have hb := HB1.out.still ht
      have c0 := hb.c0
      have c1 := hb.c1
      have f0 := hb.fr
      have HT1 := Lib.hid (HBT.out.next ht (fun _ _ f => f))
      have HS := Lib.hid (hb.set (a' := .string ⟨s2.bs.toArray⟩) (b' := .int .i64 s2.e))
      clear ht hb HF HB1 HBT
      unfold refV
      go_wp2
      have r0 := HS.out.c0
      have r1 := HS.out.c1
      exact bodyPost_ret (v := .tuple #[.agg #[.string ⟨s2.bs.toArray⟩, .int .i64 s2.e], .string ⟨#[]⟩, .bool false]) (by simp [results, Try.results43, go_sem, r0, r1]) rfl ⟨false, rfl, HT1.out.set2 (by omega) _ _⟩
  · have he : st.e = 0 := by
      by_cases h : st.e = 0
      · exact h
      · exact absurd (.inl h) hbad
    have hs : ¬ st.bs.length < n := fun h => hbad (.inr h)
    have HT : Hid (takeS st n = (⟨st.bs.drop n, 0⟩, st.bs.take n)) := by
      show takeS st n = _
      unfold takeS
      rw [if_neg hs, he]
    rw [HT.out]
    obtain ⟨l, e⟩ := st
    dsimp only at *
    subst he
    have hsz : (ByteArray.mk l.toArray).size = l.length := by rw [← bytes_length]
    have hx1 : (ByteArray.mk l.toArray).extract n (ByteArray.mk l.toArray).size = ⟨(l.drop n).toArray⟩ := by rw [extract_drop]
    have hx2 : (ByteArray.mk l.toArray).extract 0 n = ⟨(l.take n).toArray⟩ := by rw [extract_take]
    unfold refV
    dsimp only
    have hrv : refV ⟨l.drop n, 0⟩ = .agg #[.string ((ByteArray.mk l.toArray).extract n (ByteArray.mk l.toArray).size), .int .i64 0] := by rw [hx1]; rfl
    have HX2 := Lib.hid hx2
    have HRV := Lib.hid hrv
    clear hx1 hx2 hrv
    generalize ByteArray.mk l.toArray = s at *
    have hn1 : (n : Int) ≤ (s.size : Int) := by omega
    have hn0 : (0 : Int) ≤ (n : Int) := by omega
    have hng : ¬ ((s.size : Int) < (n : Int)) := by omega
    clear hbad hs hsz hok hl
    go_enter Try.func43, Try.ntmps43
    go_wp2
    go_region
    all_goals
      go_wp2
      exact bodyPost_ret (v := .tuple #[.agg #[.string (s.extract n s.size), .int .i64 0], .string (s.extract 0 n), .bool true]) (by simp [results, Try.results43, go_sem]) rfl ⟨true, by rw [HRV.out, ← HX2.out], (((Turns.refl _ _).alloc _).alloc _).drew⟩

/-- A reader and a number are told. -/
def Ref2 (st : St) (x : Nat) (w : World) (e : Ending) (w' : World) : Prop := e = .returned (.tuple #[refV st, .int .u64 x]) ∧ Turns (fun _ => False) w w'
set_option maxHeartbeats 1000000 in
theorem get_calls (st : St) (si : Int) (size : Nat) (w : World) (hok : Ok st) (hl : st.bs.length ≤ 1099511627776) (hsi : si = size) (hn : size ≤ 8) :
    Calls Try.prog 39 #[refV st, .int .i64 si] w (Ref2 (numS st size).1 (numS st size).2 w) := by
  subst hsi
  have hlen := takeS_length st size
  have HK := Lib.hid (fun W => take_calls st size W hok hl (by omega))
  have HNS : Hid (numS st size = ((takeS st size).1, val (takeS st size).2)) := rfl
  rw [HNS.out]
  clear HNS hok hl
  generalize (takeS st size).1 = s2 at *
  generalize (takeS st size).2 = t at *
  obtain ⟨l, e⟩ := st
  unfold refV at HK
  unfold refV
  dsimp only at *
  generalize ByteArray.mk l.toArray = s at *
  obtain ⟨b0, b1, bt⟩ := boxes w (.string s) (.int .i64 e) (.string ⟨#[]⟩) (.int .i64 0)
  have HB1 := Lib.hid b1
  have HBT := Lib.hid bt
  clear b0 b1 bt
  go_enter Try.func39, Try.ntmps39
  go_wp2_with fail
  with_reducible refine (HK.out _).mono ?_
  rintro e' w1 ⟨ok, rfl, ht⟩
  have hts : (ByteArray.mk t.toArray).size ≤ 8 := by rw [← bytes_length]; show t.length ≤ 8; omega
  have htd : (ByteArray.mk t.toArray).data.toList = t := rfl
  have HV := Lib.hid (fun W => value_calls (ByteArray.mk t.toArray) W hts)
  rw [htd] at HV
  have hb1 := HB1.out.still ht
  have hlt : w.heap.size + 1 < w1.heap.size := hb1.lt
  have HT1 := Lib.hid (HBT.out.next ht (fun _ _ f => f))
  generalize ByteArray.mk t.toArray = ts at *
  generalize hsb : ByteArray.mk s2.bs.toArray = sb at *
  have hrv : refV s2 = .agg #[.string sb, .int .i64 s2.e] := by rw [← hsb]; rfl
  have hb2 : ∀ o, Blk2 (w1.alloc o) (w.heap.size + 1) (.string ⟨#[]⟩) (.int .i64 0) := fun o => hb1.still ((Turns.refl _ _).alloc o)
  have c0 := fun o => (hb2 o).c0
  have c1 := fun o => (hb2 o).c1
  have f0 := fun o => (hb2 o).fr
  have c0' := hb1.c0
  have c1' := hb1.c1
  have f0' := hb1.fr
  have HS : Hid (Blk2 (((w1.setCell ⟨w.heap.size + 1, 0, none⟩ (.string sb)).setCell ⟨w.heap.size + 1, 1, none⟩ (.int .i64 s2.e)).alloc (.cells #[.string sb, .int .i64 s2.e] 42)) (w.heap.size + 1) (.string sb) (.int .i64 s2.e)) := hb1.set.still ((Turns.refl _ _).alloc _)
  have HRV := Lib.hid hrv
  rw [hrv]
  clear hts htd hb1 ht HB1 HBT HK hrv hsb hb2
  go_wp2_with fail
  go_region_with (go_at_call 50; refine (HV.out _).mono ?_; rintro e' w' ⟨rfl, rfl⟩)
  all_goals
    go_wp2
    have r0 := HS.out.c0
    have r1 := HS.out.c1
    exact bodyPost_ret (v := .tuple #[.agg #[.string sb, .int .i64 s2.e], .int .u64 (val t)]) (by simp [results, Try.results39, go_sem, r0, r1]) rfl ⟨by rw [HRV.out], ((HT1.out.set2 (by omega) _ _).alloc _).drew⟩
end Go.Proofs.Ytgipafdfmghogaa
