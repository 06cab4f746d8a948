/-
  Lookup, Copy and All of the directory.
  Conditions: texts are no longer than they may be.
-/
import Derived.Test.YtclnkboejbnfnaaGreatDoorElderList
namespace Go.Proofs.YtclnkboejbnfnaaGreatDoor
open Go.RowKit Go.Maps Go.Sort Go.Shelf

theorem askrow7_new (W : World) (l : List (Value × Int)) (t : TypeId) (ha : ∀ x ∈ l, Ask7 x.1 x.2 W) : AskRow7 (W.alloc (.cells (l.map (·.1)).toArray t)) W.heap.size l := by
  refine ⟨by simp, fun j hj => ⟨?_, (ha _ (List.getElem_mem hj)).later (below_alloc (Below.refl _ _) _)⟩⟩
  rw [World.cell?_alloc_at _ _ _ _ rfl]
  simp [hj]

/-- What Lookup tells beside the error. -/
def loS (L : Row7) (n : List UInt8) : List UInt8 := if deE L n = 0 then getE L n else []

set_option maxRecDepth 100000 in
set_option maxHeartbeats 1000000 in
theorem lookup7_calls (B : Nat) (p : Option Nat) (L : Row7) (n : ByteArray) (w : World) (hd : Dir7 w B p L) (hn : n.size ≤ 9223372036854775807) :
    Calls Tryz.prog 34 #[.pointer (some ⟨B, 0, none⟩), .string n] w fun e w' => e = .returned (.tuple #[.string (tx7 (loS L n.data.toList)), .int .i64 (deE L n.data.toList)]) ∧ Below w.heap.size w w' := by
  have hn' : n.size ≤ maxLen := Nat.le_trans hn (by decide)
  have HN := Lib.hid (isName7_calls n w hn)
  have HI : Hid (∀ W, Dir7 W B p L → Calls Tryz.prog 79 #[.pointer (some ⟨B, 0, none⟩), .string n] W (Makes7 (err5 (hasE L n.data.toList) 8) W)) := fun W hD => isThere7_calls B p L n W hD hn'
  have HL : Hid (∀ W, Dir7 W B p L → (Instr.lookup 88 (.map p) (.string n) false).run Tryz.prog W = .ok (.string (tx7 (getE L n.data.toList))) W) := fun W hD => look71 hD n hn'
  obtain ⟨r, hr⟩ : ∃ r, r = deE L n.data.toList := ⟨_, rfl⟩
  have HS : Hid (loS L n.data.toList = if r = 0 then getE L n.data.toList else []) := by rw [hr]; rfl
  rw [← hr]
  have HR : Hid (first7 [err5 (name5 n.data.toList) 10, err5 (hasE L n.data.toList) 8] = r) := hr.symm
  have HD := Lib.hid hd
  clear hr hd
  generalize err5 (name5 n.data.toList) 10 = e0 at *
  generalize err5 (hasE L n.data.toList) 8 = e1 at *
  generalize loS L n.data.toList = s at *
  generalize getE L n.data.toList = s' at *
  go_enter Tryz.func34, Tryz.ntmps34
  go_wp2_with fail
  with_reducible refine HN.out.mono ?_
  rintro e w1 ⟨g0, lb0, rfl, ha, hb⟩
  have HA0 := Lib.hid ha
  have HB1 := Lib.hid hb
  have HI1 := Lib.hid (HI.out w1 (HD.out.later hb))
  clear ha hb HN HI
  go_wp2_with fail
  with_reducible refine HI1.out.mono ?_
  rintro e w2 ⟨g1, lb1, rfl, ha, hb⟩
  have HB2 := Lib.hid (below_next HB1.out hb)
  have hrow := askrow7_new w2 [(.func (.func g0) #[] lb0, e0), (.func (.func g1) #[] lb1, e1)] 82 (by
    intro x hx
    simp only [List.mem_cons, List.not_mem_nil, or_false] at hx
    rcases hx with rfl | rfl
    · exact HA0.out.later hb
    · exact ha)
  have hf := first7_calls w2.heap.size 2 2 _ _ rfl (by decide) hrow
  have HF : Hid (Calls Tryz.prog 44 #[.slice (some ⟨w2.heap.size, 0, none⟩) 2 2] (w2.alloc (.cells #[.func (.func g0) #[] lb0, .func (.func g1) #[] lb1] 82)) (Errs5 r (w2.alloc (.cells #[.func (.func g0) #[] lb0, .func (.func g1) #[] lb1] 82)))) := by
    rw [← HR.out]; exact hf
  clear hf hrow ha hb HI1 HA0 HR
  go_wp2_with fail
  with_reducible refine HF.out.mono ?_
  rintro e w3 ⟨rfl, hb⟩
  have HB3 := Lib.hid (below_next HB2.out (below_next (below_alloc (Below.refl w2.heap.size w2) _) hb))
  clear hb HF HB2 HB1
  by_cases h0 : r = 0
  · have hl := HL.out w3 (HD.out.later HB3.out)
    have hc := (HD.out.later HB3.out).cell
    have HS2 := HS.out
    rw [if_pos h0] at HS2
    subst h0
    subst HS2
    clear HS HL HD
    go_wp2
    go_ret2
    exact ⟨rfl, HB3.out⟩
  · have h1 : (r != 0) = true := by simpa using h0
    have HS2 := HS.out
    rw [if_neg h0] at HS2
    subst HS2
    clear HS HL HD
    go_wp2
    go_ret2
    exact ⟨rfl, HB3.out⟩

/-- A directory of its own, apart from all that was there. -/
def Apart7 (L : Row7) (w : World) (e : Ending) (w' : World) : Prop :=
  ∃ B p, e = .returned (.pointer (some ⟨B, 0, none⟩)) ∧ Dir7 w' B p L ∧ w.heap.size ≤ B ∧ (∀ b, p = some b → w.heap.size ≤ b) ∧ Below w.heap.size w w'

/-! ### All -/
/-- A user with a name and a sum, as cells. -/
def usr7 (q : List UInt8 × List UInt8) : List Value := [.string (tx7 q.1), .string (tx7 q.2), .string ⟨#[]⟩, .bool false, .slice none 0 0]
theorem usr7_at (L : Row7) (j i : Nat) (hj : j < L.length) (hi : i < 5) : (L.flatMap usr7)[j * 5 + i]? = (usr7 L[j])[i]? := by
  induction L generalizing j with
  | nil => exact absurd hj (Nat.not_lt_zero _)
  | cons q L ih =>
    rw [List.flatMap_cons]
    cases j with
    | zero =>
      rw [List.getElem?_append_left (by simp [usr7]; omega)]
      simp
    | succ j =>
      rw [List.getElem?_append_right (by simp [usr7]; omega)]
      have := ih j (by simpa using hj)
      rw [show (j + 1) * 5 + i - (usr7 q).length = j * 5 + i by simp [usr7]; omega, this]
      simp
theorem usr7_length (L : Row7) : (L.flatMap usr7).length = L.length * 5 := by
  induction L with
  | nil => rfl
  | cons q L ih => rw [List.flatMap_cons, List.length_append, ih]; simp [usr7]; omega
theorem rows_apart {w : World} {b1 b2 s1 s2 n1 n2 : Nat} {e1 e2 : TypeId} {v1 v2 : Value} {xs1 xs2 : List Value} (h1 : w.ownsRow b1 e1 s1 v1 n1 xs1) (h2 : w.ownsRow b2 e2 s2 v2 n2 xs2) (he : e1 ≠ e2) : v1.ownBlock = none ∨ v1.ownBlock ≠ v2.ownBlock := by
  rcases h1.2 with ⟨rfl, _⟩ | ⟨g, cap, cur, rfl, _, hg, _⟩
  · exact .inl rfl
  · rcases h2.2 with ⟨rfl, _⟩ | ⟨g2, cap2, cur2, rfl, _, hg2, _⟩
    · exact .inr (by simp [Value.ownBlock])
    · refine .inr fun e => ?_
      have : g = g2 := by simpa [Value.ownBlock] using e
      subst this
      rw [hg] at hg2
      injection hg2 with h
      injection h with _ h
      exact he h
theorem infoUser7 : (Tryz.prog.info? 26).map (fun i => (i.zero, i.size, i.bytes)) = some (some (.agg #[.string ⟨#[]⟩, .string ⟨#[]⟩, .string ⟨#[]⟩, .bool false, .slice none 0 0]), 5, 80) := by kernel_rfl

/-- The users of a row, new in memory. -/
def Users7 (L : Row7) (base : Nat) (w : World) (v : Value) : Prop := w.ownsRow base 26 5 v L.length (L.flatMap usr7)

set_option maxRecDepth 100000 in
set_option maxHeartbeats 2000000 in
theorem all7_calls (B : Nat) (p : Option Nat) (L : Row7) (w : World) (hd : Dir7 w B p L) : Calls Tryz.prog 15 #[.pointer (some ⟨B, 0, none⟩)] w fun e w' => ∃ v, e = .returned v ∧ Users7 L w.heap.size w' v ∧ Below w.heap.size w w' := by
  have HN := Lib.hid (names7_calls B p L w hd)
  have HD := Lib.hid hd
  have hfew := hd.few
  have HLK : Hid (∀ W, Dir7 W B p L → ∀ s : ByteArray, s.size ≤ maxLen → (Instr.lookup 88 (.map p) (.string s) false).run Tryz.prog W = .ok (.string (tx7 (getE L s.data.toList))) W) := fun W hD s hs => look71 hD s hs
  clear hd
  obtain ⟨i0, hi, hz0, hz1, hz2⟩ := info_parts infoUser7
  obtain ⟨n, hn⟩ : ∃ n, n = L.length := ⟨_, rfl⟩
  have HLN : Hid (L.length = n) := hn.symm
  rw [← hn] at hfew
  clear hn
  go_enter Tryz.func15, Tryz.ntmps15
  go_wp2_with fail
  with_reducible refine HN.out.mono ?_
  rintro e w1 ⟨v, rfl, hrow, _, hb⟩
  have hlen : (L.map (·.1)).length = n := by rw [List.length_map]; exact HLN.out
  rw [HLN.out, ← hlen] at hrow
  obtain ⟨A, c, rfl, _⟩ := Txs7.of_own hrow
  have HRW := Lib.hid hrow
  rw [hlen] at HRW ⊢
  have HB := Lib.hid hb
  have HLE := Lib.hid hlen
  clear hb hrow HN hlen
  go_wp2
  go_loopg [3, 5, 9] n (fun gg s3 _ s9 wr => ∃ k : Nat, k ≤ n ∧ n - k ≤ gg ∧ s9 = .int .i64 k ∧ Hid (Below w.heap.size w wr) ∧ Hid (wr.ownsRow w.heap.size 9 1 (.slice A n c) n ((L.map (·.1)).map encStr)) ∧ Hid (wr.ownsRow w.heap.size 26 5 s3 k ((L.take k).flatMap usr7)))
  case atStart => exact ⟨0, Nat.zero_le _, by omega, rfl, HB, HRW, World.ownsRow_nil _ _ _ _⟩
  case round =>
    obtain ⟨k, hk, hg, rfl, HW, HR2, HU⟩ := hrel
    by_cases hlt : k < n
    · have hltz : (k : Int) < (n : Int) := by omega
      have hkl : k < L.length := by have := HLN.out; omega
      have hr2 := HR2.out
      have hle := HLE.out
      obtain ⟨A', c', e1, hcs⟩ := Txs7.of_own (ls := L.map (·.1)) (by rw [hle]; exact hr2)
      injection e1 with e1 e2 e3
      subst e1
      subst e3
      clear e2
      obtain ⟨g, rfl, hcell⟩ := hcs k (by rw [hle]; exact hlt)
      have hnm : (L.map (·.1))[k]'(by rw [hle]; exact hlt) = L[k].1 := by simp
      rw [hnm] at hcell
      have hDw := HD.out.later HW.out
      have hc := hDw.cell
      have hlk := HLK.out wr hDw (tx7 L[k].1) (by
        have := (HD.out.all L[k] (List.getElem_mem hkl)).1
        rw [← size_list, tx7_list]
        exact Nat.le_trans this (by decide))
      rw [tx7_list] at hlk
      have hget : getE L L[k].1 = L[k].2 := get_mem HD.out.rise (List.getElem_mem hkl)
      rw [hget] at hlk
      have hne := rows_apart hr2 HU.out (by decide)
      have HT : Hid ((L.take (k + 1)).flatMap usr7 = (L.take k).flatMap usr7 ++ [.string (tx7 L[k].1), .string (tx7 L[k].2), .string ⟨#[]⟩, .bool false, .slice none 0 0]) := by
        show _ = _
        rw [List.take_succ_eq_append_getElem hkl, List.flatMap_append]
        simp [usr7]
      have HNE := Lib.hid hne
      generalize tx7 L[k].1 = sn at *
      generalize tx7 L[k].2 = sh at *
      clear hcs hnm hDw hget hr2 hle hne
      go_wp2_with (first
        | (at_builtin; refine wpList_append_own _ rfl _ _ 22 rfl w.heap.size 26 i0 (.agg #[.string ⟨#[]⟩, .string ⟨#[]⟩, .string ⟨#[]⟩, .bool false, .slice none 0 0]) 5 80 Tryz.underlying22 hi hz0 hz1 hz2 rfl (by decide) _ _ _ rfl (HU.out.alloc _) ⟨wr.heap.size, 0, none⟩ 1 1 [.string sn, .string sh, .string ⟨#[]⟩, .bool false, .slice none 0 0] rfl rfl
            (fun j u hu => by rw [Addr.add_lit, Nat.zero_add, World.cell?_alloc_at _ _ _ _ rfl]; simpa using hu) (by simp [Value.oneCell']) (by unfold maxLen; omega) (by omega) (by have := HW.out.size; simp; omega) ?_
           intro v' w2 hown' hgrow _
           have HO := Lib.hid hown'
           have HG := Lib.hid hgrow
           clear hown' hgrow)
        | fail)
      go_roundg (n - (k + 1))
      case measure => omega
      case rel =>
        have hg1 : wr.grownBy (wr.alloc (.cells #[.string sn, .string sh, .string ⟨#[]⟩, .bool false, .slice none 0 0] 26)) none := World.grownBy_alloc _ _ _
        refine ⟨k + 1, by omega, by omega, by go_num, (show Hid _ from ?_), (show Hid _ from ?_), (show Hid _ from by rw [HT.out]; exact HO.out)⟩
        · exact (below_next HW.out (below_alloc (Below.refl _ _) _)).grown HG.out (by have := HW.out.size; simp; omega) (fun j hj => (HU.out.lt j hj).1)
        · exact (HR2.out.alloc _).kept HG.out HNE.out
    · have hltz : ¬ (k : Int) < (n : Int) := by omega
      obtain rfl : k = n := by omega
      go_wp2
      go_ret
      refine ⟨_, rfl, ?_, HW.out⟩
      have hu := HU.out
      have hl := HLN.out
      rw [List.take_of_length_le (by omega)] at hu
      unfold Users7
      rw [hl]
      exact hu
end Go.Proofs.YtclnkboejbnfnaaGreatDoor
