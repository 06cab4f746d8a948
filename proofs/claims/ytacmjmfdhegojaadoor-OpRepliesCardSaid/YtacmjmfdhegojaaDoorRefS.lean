/-
  What the document's own reader does with truths, texts and rows: the same as the plain model of the Reader, where an error leaves nothing.
  Conditions: at most 2^40 bytes.
-/
import Derived.Test.YtacmjmfdhegojaaDoorRefR
namespace Go.Proofs.YtacmjmfdhegojaaDoor
open Go.RowKit

theorem Ok.fail {st : St} (h : Ok st) (e : Int) : Ok (failS st e) := by
  unfold failS
  split
  · exact h
  · exact fun _ => rfl
theorem Ok.take {st : St} (h : Ok st) (n : Nat) : Ok (takeS st n).1 := by
  unfold takeS
  split
  · exact h.fail 2
  · intro he
    have := h he
    show st.bs.drop n = []
    rw [this]; simp
theorem Ok.num {st : St} (h : Ok st) (n : Nat) : Ok (numS st n).1 := h.take n
theorem Ok.len {st : St} (h : Ok st) (most : Int) : Ok (lengthS st most).1 := by
  unfold lengthS
  split
  · exact (h.num 2).fail 3
  · exact h.num 2
theorem Ok.text {st : St} (h : Ok st) (most : Int) : Ok (textS st most).1 := (h.len most).take _
theorem Ok.truth {st : St} (h : Ok st) : Ok (truthS st).1 := by
  unfold truthS
  split
  · exact (h.num 1).fail 4
  · exact h.num 1
theorem Ok.rowGo {long : Int} : ∀ (k : Nat) (st : St) (acc : List ByteArray), Ok st → Ok (rowGo long k st acc).1
  | 0, _, _, h => h
  | k + 1, st, acc, h => by
    unfold Go.Proofs.YtacmjmfdhegojaaDoor.rowGo
    split
    · exact h.text long
    · exact Ok.rowGo k _ _ (h.text long)
theorem Ok.row {st : St} (h : Ok st) (most long : Int) : Ok (rowS st most long).1 := Ok.rowGo _ _ _ (h.len most)
theorem numS_zero {st : St} (h : Ok st) (k : Nat) (he : (numS st k).1.e ≠ 0) : (numS st k).2 = 0 := by
  unfold numS takeS at *
  split
  · rfl
  · rename_i hs
    rw [if_neg hs] at he
    have := h he
    rw [this]
    simp [val]
theorem failS_zero {st : St} (h : st.e = 0) (e : Int) (he : e ≠ 0) : failS st e = ⟨[], e⟩ := by simp [failS, h, he]

/-- A reader and a truth are told. -/
def RefB (st : St) (b : Bool) (w : World) (e : Ending) (w' : World) : Prop := e = .returned (.tuple #[refV st, .bool b]) ∧ Turns (fun _ => False) w w'
/-- A reader and a text are told. -/
def RefT (st : St) (l : List UInt8) (w : World) (e : Ending) (w' : World) : Prop := e = .returned (.tuple #[refV st, .string ⟨l.toArray⟩]) ∧ Turns (fun _ => False) w w'
set_option maxRecDepth 100000 in
set_option maxHeartbeats 2000000 in
theorem gettext_calls (st : St) (most : Int) (w : World) (hok : Ok st) (hl : st.bs.length ≤ 1099511627776) :
    Calls Tryd.prog 34 #[refV st, .int .i64 most] w (RefT (textS st most).1 (textS st most).2 w) := by
  have HK := Lib.hid (fun W si (e : si = ((2 : Nat) : Int)) => get_calls st si 2 W hok hl e (by omega))
  have hz := numS_zero hok 2
  have hx : (numS st 2).2 < 65536 := numS_lt st 2
  have hok2 := hok.num 2
  have hl2 := Nat.le_trans (numS_left st 2) hl
  have HT : Hid (textS st most = takeS (lengthS st most).1 (lengthS st most).2) := rfl
  have HL : Hid (lengthS st most = if max most 0 < ((numS st 2).2 : Int) then (failS (numS st 2).1 3, 0) else ((numS st 2).1, (numS st 2).2)) := rfl
  rw [HT.out, HL.out]
  clear HT HL hok hl
  generalize (numS st 2).2 = x at *
  generalize (numS st 2).1 = s2 at *
  obtain ⟨l, e⟩ := st
  unfold refV at HK
  unfold refV
  dsimp only at *
  generalize ByteArray.mk l.toArray = s at *
  obtain ⟨b0, b1, bt⟩ := boxes w (.string s) (.int .i64 e) (.string ⟨#[]⟩) (.int .i64 0)
  have HB1 := Lib.hid b1
  have HBT := Lib.hid bt
  clear b0 b1 bt
  by_cases h1 : max most 0 < (x : Int)
  · have he0 : s2.e = 0 := by
      by_cases h : s2.e = 0
      · exact h
      · have := hz h; omega
    have HT : Hid (takeS (failS s2 3) 0 = (⟨[], 3⟩, [])) := by
      show takeS (failS s2 3) 0 = (⟨[], 3⟩, [])
      rw [failS_zero he0 3 (by omega)]
      rfl
    rw [if_pos h1]
    show Calls _ _ _ _ (RefT (takeS (failS s2 3) 0).1 (takeS (failS s2 3) 0).2 w)
    rw [HT.out]
    have d1 : (s2.e == 0) = true := by simpa using he0
    clear hz HT he0
    go_enter Tryd.func34, Tryd.ntmps34
    go_wp2_with fail
    with_reducible refine (HK.out _ _ (by simp)).mono ?_
    rintro e' w1 ⟨rfl, ht⟩
    have hb1 := HB1.out.still ht
    have hlt : w.heap.size + 1 < w1.heap.size := hb1.lt
    have HT1 := Lib.hid (HBT.out.next ht (fun _ _ f => f))
    have c0' := hb1.c0
    have c1' := hb1.c1
    have f0' := hb1.fr
    have HS := Lib.hid (hb1.set (a' := .string ⟨#[]⟩) (b' := .int .i64 3))
    clear hb1 ht HB1 HBT HK
    unfold refV
    go_wp2
    all_goals
      have r0 := fun o => (HS.out.still ((Turns.refl _ _).alloc o)).c0
      have r1 := fun o => (HS.out.still ((Turns.refl _ _).alloc o)).c1
      exact bodyPost_ret (v := .tuple #[.agg #[.string ⟨#[]⟩, .int .i64 3], .string ⟨#[]⟩]) (by simp [results, Tryd.results34, go_sem, r0, r1]) rfl ⟨rfl, (HT1.out.set2 (by omega) _ _).alloc _⟩
  · rw [if_neg h1]
    show Calls _ _ _ _ (RefT (takeS s2 x).1 (takeS s2 x).2 w)
    have HTK := Lib.hid (fun W => take_calls s2 x W hok2 hl2 (by omega))
    generalize (takeS s2 x).1 = s3 at *
    generalize (takeS s2 x).2 = t at *
    clear hz hok2 hl2
    have hcase : (s2.e == 0) = true ∨ (s2.e == 0) = false := by cases (s2.e == 0) <;> simp
    go_enter Tryd.func34, Tryd.ntmps34
    go_wp2_with fail
    with_reducible refine (HK.out _ _ (by simp)).mono ?_
    rintro e' w1 ⟨rfl, ht⟩
    have hb1 := HB1.out.still ht
    have hlt : w.heap.size + 1 < w1.heap.size := hb1.lt
    have HT1 := Lib.hid (HBT.out.next ht (fun _ _ f => f))
    have hba := Blk2.new w1 (.string ⟨s2.bs.toArray⟩) (.int .i64 s2.e)
    have hbb := hb1.still ((Turns.refl _ _).alloc (.cells #[.string ⟨s2.bs.toArray⟩, .int .i64 s2.e] 73))
    have HBA := Lib.hid hba
    have HBB := Lib.hid hbb
    clear hb1 ht HB1 HBT HK hba hbb
    unfold refV at HTK ⊢
    rcases hcase with d1 | d1
    all_goals
      go_wp2_with fail
      all_goals
        with_reducible refine (HTK.out _).mono ?_
        rintro e' w3 ⟨ok, rfl, ht3⟩
        have hba := HBA.out.still ht3
        have hbb := HBB.out.still ht3
        have ca0 := hba.c0
        have ca1 := hba.c1
        have fa := hba.fr
        have cb0 := hbb.c0
        have cb1 := hbb.c1
        have fb := hbb.fr
        have hne : w1.heap.size ≠ w.heap.size + 1 := by omega
        have HBB3 := Lib.hid hbb
        have HBA3 := Lib.hid hba
        have HT3 := Lib.hid ((HT1.out.alloc _).next ht3 (fun _ _ f => f))
        clear ht3 hba hbb
        unfold refV
        go_wp2
        have hfin := HBB3.out.far (g' := w1.heap.size) (by omega) (.string ⟨s3.bs.toArray⟩) (.int .i64 s3.e)
        have r0 := (hfin.set (a' := .string ⟨s3.bs.toArray⟩) (b' := .int .i64 s3.e)).c0
        have r1 := (hfin.set (a' := .string ⟨s3.bs.toArray⟩) (b' := .int .i64 s3.e)).c1
        exact bodyPost_ret (v := .tuple #[.agg #[.string ⟨s3.bs.toArray⟩, .int .i64 s3.e], .string ⟨t.toArray⟩]) (by simp [results, Tryd.results34, go_sem, r0, r1]) rfl ⟨rfl, (HT3.out.set2 (by omega) _ _).set2 (by omega) _ _⟩
end Go.Proofs.YtacmjmfdhegojaaDoor
