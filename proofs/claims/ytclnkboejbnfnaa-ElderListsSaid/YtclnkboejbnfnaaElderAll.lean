/-
  Lookup, Copy and All of the directory.
  Conditions: texts are no longer than they may be.
-/
import Derived.Test.YtclnkboejbnfnaaElderList
namespace Go.Proofs.Ytclnkboejbnfnaa
open Go.RowKit Go.Maps Go.Sort Go.Shelf

theorem askrow7_new (W : World) (l : List (Value × Int)) (t : TypeId) (ha : ∀ x ∈ l, Ask7 x.1 x.2 W) : AskRow7 (W.alloc (.cells (l.map (·.1)).toArray t)) W.heap.size l := by
  refine ⟨by simp, fun j hj => ⟨?_, (ha _ (List.getElem_mem hj)).later (below_alloc (Below.refl _ _) _)⟩⟩
  rw [World.cell?_alloc_at _ _ _ _ rfl]
  simp [hj]

/-- What Lookup tells beside the error. -/
def loS (L : Row7) (n : List UInt8) : List UInt8 := if deE L n = 0 then getE L n else []

/-- A directory of its own, apart from all that was there. -/
def Apart7 (L : Row7) (w : World) (e : Ending) (w' : World) : Prop :=
  ∃ B p, e = .returned (.pointer (some ⟨B, 0, none⟩)) ∧ Dir7 w' B p L ∧ w.heap.size ≤ B ∧ (∀ b, p = some b → w.heap.size ≤ b) ∧ Below w.heap.size w w'

/-! ### All -/
/-- A user with a name and a sum, as cells. -/
def usr7 (q : List UInt8 × List UInt8) : List Value := [.string (tx7 q.1), .string (tx7 q.2), .string ⟨#[]⟩, .bool false, .slice none 0 0]
theorem usr7_at (L : Row7) (j i : Nat) (hj : j < L.length) (hi : i < 5) : (L.flatMap usr7)[j * 5 + i]? = (usr7 L[j])[i]? := by
  induction L generalizing j with
  | nil => exact absurd hj (Nat.not_lt_zero _)
  | cons q L ih =>
    rw [List.flatMap_cons]
    cases j with
    | zero =>
      rw [List.getElem?_append_left (by simp [usr7]; omega)]
      simp
    | succ j =>
      rw [List.getElem?_append_right (by simp [usr7]; omega)]
      have := ih j (by simpa using hj)
      rw [show (j + 1) * 5 + i - (usr7 q).length = j * 5 + i by simp [usr7]; omega, this]
      simp
theorem usr7_length (L : Row7) : (L.flatMap usr7).length = L.length * 5 := by
  induction L with
  | nil => rfl
  | cons q L ih => rw [List.flatMap_cons, List.length_append, ih]; simp [usr7]; omega
theorem rows_apart {w : World} {b1 b2 s1 s2 n1 n2 : Nat} {e1 e2 : TypeId} {v1 v2 : Value} {xs1 xs2 : List Value} (h1 : w.ownsRow b1 e1 s1 v1 n1 xs1) (h2 : w.ownsRow b2 e2 s2 v2 n2 xs2) (he : e1 ≠ e2) : v1.ownBlock = none ∨ v1.ownBlock ≠ v2.ownBlock := by
  rcases h1.2 with ⟨rfl, _⟩ | ⟨g, cap, cur, rfl, _, hg, _⟩
  · exact .inl rfl
  · rcases h2.2 with ⟨rfl, _⟩ | ⟨g2, cap2, cur2, rfl, _, hg2, _⟩
    · exact .inr (by simp [Value.ownBlock])
    · refine .inr fun e => ?_
      have : g = g2 := by simpa [Value.ownBlock] using e
      subst this
      rw [hg] at hg2
      injection hg2 with h
      injection h with _ h
      exact he h
theorem infoUser7 : (Try.prog.info? 37).map (fun i => (i.zero, i.size, i.bytes)) = some (some (.agg #[.string ⟨#[]⟩, .string ⟨#[]⟩, .string ⟨#[]⟩, .bool false, .slice none 0 0]), 5, 80) := by kernel_rfl

/-- The users of a row, new in memory. -/
def Users7 (L : Row7) (base : Nat) (w : World) (v : Value) : Prop := w.ownsRow base 37 5 v L.length (L.flatMap usr7)

set_option maxRecDepth 100000 in
set_option maxHeartbeats 2000000 in
theorem all7_calls (B : Nat) (p : Option Nat) (L : Row7) (w : World) (hd : Dir7 w B p L) : Calls Try.prog 9 #[.pointer (some ⟨B, 0, none⟩)] w fun e w' => ∃ v, e = .returned v ∧ Users7 L w.heap.size w' v ∧ Below w.heap.size w w' := by
  have HN := Lib.hid (names7_calls B p L w hd)
  have HD := Lib.hid hd
  have hfew := hd.few
  have HLK : Hid (∀ W, Dir7 W B p L → ∀ s : ByteArray, s.size ≤ maxLen → (Instr.lookup 42 (.map p) (.string s) false).run Try.prog W = .ok (.string (tx7 (getE L s.data.toList))) W) := fun W hD s hs => look71 hD s hs
  clear hd
  obtain ⟨i0, hi, hz0, hz1, hz2⟩ := info_parts infoUser7
  obtain ⟨n, hn⟩ : ∃ n, n = L.length := ⟨_, rfl⟩
  have HLN : Hid (L.length = n) := hn.symm
  rw [← hn] at hfew
  clear hn
  go_enter Try.func9, Try.ntmps9
  go_wp2_with fail
  with_reducible refine HN.out.mono ?_
  rintro e w1 ⟨v, rfl, hrow, _, hb⟩
  have hlen : (L.map (·.1)).length = n := by rw [List.length_map]; exact HLN.out
  rw [HLN.out, ← hlen] at hrow
  obtain ⟨A, c, rfl, _⟩ := Txs7.of_own hrow
  have HRW := Lib.hid hrow
  rw [hlen] at HRW ⊢
  have HB := Lib.hid hb
  have HLE := Lib.hid hlen
  clear hb hrow HN hlen
  go_wp2
  go_loopg [3, 5, 9] n (fun gg s3 _ s9 wr => ∃ k : Nat, k ≤ n ∧ n - k ≤ gg ∧ s9 = .int .i64 k ∧ Hid (Below w.heap.size w wr) ∧ Hid (wr.ownsRow w.heap.size 9 1 (.slice A n c) n ((L.map (·.1)).map encStr)) ∧ Hid (wr.ownsRow w.heap.size 37 5 s3 k ((L.take k).flatMap usr7)))
  case atStart => exact ⟨0, Nat.zero_le _, by omega, rfl, HB, HRW, World.ownsRow_nil _ _ _ _⟩
  case round =>
    obtain ⟨k, hk, hg, rfl, HW, HR2, HU⟩ := hrel
    by_cases hlt : k < n
    · have hltz : (k : Int) < (n : Int) := by omega
      have hkl : k < L.length := by have := HLN.out; omega
      have hr2 := HR2.out
      have hle := HLE.out
      obtain ⟨A', c', e1, hcs⟩ := Txs7.of_own (ls := L.map (·.1)) (by rw [hle]; exact hr2)
      injection e1 with e1 e2 e3
      subst e1
      subst e3
      clear e2
      obtain ⟨g, rfl, hcell⟩ := hcs k (by rw [hle]; exact hlt)
      have hnm : (L.map (·.1))[k]'(by rw [hle]; exact hlt) = L[k].1 := by simp
      rw [hnm] at hcell
      have hDw := HD.out.later HW.out
      have hc := hDw.cell
      have hlk := HLK.out wr hDw (tx7 L[k].1) (by
        have := (HD.out.all L[k] (List.getElem_mem hkl)).1
        rw [← size_list, tx7_list]
        exact Nat.le_trans this (by decide))
      rw [tx7_list] at hlk
      have hget : getE L L[k].1 = L[k].2 := get_mem HD.out.rise (List.getElem_mem hkl)
      rw [hget] at hlk
      have hne := rows_apart hr2 HU.out (by decide)
      have HT : Hid ((L.take (k + 1)).flatMap usr7 = (L.take k).flatMap usr7 ++ [.string (tx7 L[k].1), .string (tx7 L[k].2), .string ⟨#[]⟩, .bool false, .slice none 0 0]) := by
        show _ = _
        rw [List.take_succ_eq_append_getElem hkl, List.flatMap_append]
        simp [usr7]
      have HNE := Lib.hid hne
      generalize tx7 L[k].1 = sn at *
      generalize tx7 L[k].2 = sh at *
      clear hcs hnm hDw hget hr2 hle hne
      go_wp2_with (first
        | (at_builtin; refine wpList_append_own _ rfl _ _ 31 rfl w.heap.size 37 i0 (.agg #[.string ⟨#[]⟩, .string ⟨#[]⟩, .string ⟨#[]⟩, .bool false, .slice none 0 0]) 5 80 Try.underlying31 hi hz0 hz1 hz2 rfl (by decide) _ _ _ rfl (HU.out.alloc _) ⟨wr.heap.size, 0, none⟩ 1 1 [.string sn, .string sh, .string ⟨#[]⟩, .bool false, .slice none 0 0] rfl rfl
            (fun j u hu => by rw [Addr.add_lit, Nat.zero_add, World.cell?_alloc_at _ _ _ _ rfl]; simpa using hu) (by simp [Value.oneCell']) (by unfold maxLen; omega) (by omega) (by have := HW.out.size; simp; omega) ?_
           intro v' w2 hown' hgrow _
           have HO := Lib.hid hown'
           have HG := Lib.hid hgrow
           clear hown' hgrow)
        | fail)
      go_roundg (n - (k + 1))
      case measure => omega
      case rel =>
        have hg1 : wr.grownBy (wr.alloc (.cells #[.string sn, .string sh, .string ⟨#[]⟩, .bool false, .slice none 0 0] 37)) none := World.grownBy_alloc _ _ _
        refine ⟨k + 1, by omega, by omega, by go_num, (show Hid _ from ?_), (show Hid _ from ?_), (show Hid _ from by rw [HT.out]; exact HO.out)⟩
        · exact (below_next HW.out (below_alloc (Below.refl _ _) _)).grown HG.out (by have := HW.out.size; simp; omega) (fun j hj => (HU.out.lt j hj).1)
        · exact (HR2.out.alloc _).kept HG.out HNE.out
    · have hltz : ¬ (k : Int) < (n : Int) := by omega
      obtain rfl : k = n := by omega
      go_wp2
      go_ret
      refine ⟨_, rfl, ?_, HW.out⟩
      have hu := HU.out
      have hl := HLN.out
      rw [List.take_of_length_le (by omega)] at hu
      unfold Users7
      rw [hl]
      exact hu
end Go.Proofs.Ytclnkboejbnfnaa
