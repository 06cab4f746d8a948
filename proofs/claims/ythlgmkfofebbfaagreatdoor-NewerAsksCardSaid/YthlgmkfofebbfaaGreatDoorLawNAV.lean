/-
  What this law alone needs, the law walked, and its statement.
  Conditions: each theorem's own.
-/
import Derived.Test.YthlgmkfofebbfaaGreatDoorRows
import Derived.Test.YthlgmkfofebbfaaGreatDoorCards
import Derived.Test.YthlgmkfofebbfaaGreatDoorTie
import Derived.Test.YthlgmkfofebbfaaGreatDoorNwrBaseA
import Derived.Test.YthlgmkfofebbfaaGreatDoorNwrBaseB
import Derived.Test.YthlgmkfofebbfaaGreatDoorNwrBaseC
import Derived.Test.YthlgmkfofebbfaaGreatDoorNwrBaseD
import Derived.Test.YthlgmkfofebbfaaGreatDoorNwrBaseE
import Derived.Test.YthlgmkfofebbfaaGreatDoorNwrBaseF
import Derived.Test.YthlgmkfofebbfaaGreatDoorNwrBaseG
import Derived.Test.YthlgmkfofebbfaaGreatDoorNwrBaseH
import Derived.Test.YthlgmkfofebbfaaGreatDoorNwrBaseI
import Derived.Test.YthlgmkfofebbfaaGreatDoorNwrBaseJ
namespace Go.Proofs.YthlgmkfofebbfaaGreatDoor
open Go.RowKit Go.Maps Go.Sort Go.Shelf
set_option linter.unusedVariables false

def Txs11 (w : World) (v : Value) (ls : List (List UInt8)) : Prop := ∃ A c, v = .slice A ls.length c ∧ ∀ j (h : j < ls.length), ∃ g, A = some ⟨g, 0, none⟩ ∧ w.cell? ⟨g, j, none⟩ = some (.string (tx10 ls[j]))
theorem Txs11.later {w w' : World} {v : Value} {ls : List (List UInt8)} (h : Txs11 w v ls) (hb : Below w.heap.size w w') : Txs11 w' v ls := by
 obtain ⟨A, c, e, hc⟩ := h
 exact ⟨A, c, e, fun j hj => by obtain ⟨g, e, h⟩ := hc j hj; exact ⟨g, e, (hb.cell (p := ⟨g, j, none⟩) (World.block_lt_of_cell? w _ h)).trans h⟩⟩
theorem Txs11.nil (w : World) : Txs11 w (.slice none 0 0) [] := ⟨none, 0, rfl, fun _ h => absurd h (Nat.not_lt_zero _)⟩
theorem Txs11.of_own {w : World} {base : Nat} {e : TypeId} {v : Value} {ls : List (List UInt8)} (h : w.ownsRow base e 1 v ls.length (ls.map encStr)) : Txs11 w v ls := by
 obtain ⟨A, c, rfl⟩ : ∃ A c, v = .slice A ls.length c := by
  rcases h.2 with ⟨rfl, h0⟩ | ⟨g, cap, cur, rfl, _⟩
  ·
   exact ⟨none, 0, by rw [h0]⟩
  ·
   exact ⟨_, _, rfl⟩
 refine ⟨A, c, rfl, fun j hj => ?_⟩
 rcases h.2 with ⟨_, h0⟩ | ⟨g, cap, cur, e1, _⟩
 ·
  omega
 ·
  injection e1 with e1
  subst e1
  refine ⟨g, rfl, ?_⟩
  have := h.cells (g := g) rfl j (encStr ls[j]) (by simp [hj])
  rw [Addr.add_lit, Nat.zero_add] at this
  exact this

set_option maxRecDepth 100000 in
theorem list111_calls (C : Nat) (pre s : ByteArray) (w : World) (hc : w.cell? ⟨C, 0, none⟩ = some (.string pre)) :
  Calls Tryz.prog 60 #[.string s, .pointer (some ⟨C, 0, none⟩)] w fun e w' => e = .returned (.bool (!Lib.hasPrefix s.data.toList pre.data.toList)) ∧ w' = w := by
 have hnot : ∀ (x : Bool) (w : World), (Op.unary .not (.bool x)).run Tryz.prog w = .ok (.bool (!x)) w := fun _ _ => rfl
 have HC := Lib.hid (Tryz.strings_HasPrefix s pre w)
 generalize Lib.hasPrefix s.data.toList pre.data.toList = r at *
 go_enter Tryz.func60, Tryz.ntmps60
 go_wp2_with fail
 with_reducible refine HC.out.mono ?_
 rintro e w1 ⟨rfl, rfl⟩
 clear HC hc
 cases r <;> go_wp2 <;> go_ret <;> exact ⟨rfl, rfl⟩

set_option maxRecDepth 100000 in
theorem delnil11_calls (fv : Value) (c : Nat) (w : World) (hfv : ∃ g lb, fv = .func (.func g) #[] lb) : Calls Tryz.prog 62 #[.slice none 0 c, fv] w fun e w' => e = .returned (.slice none 0 c) ∧ w' = w := by
 obtain ⟨g, lb, rfl⟩ := hfv
 have HI := Lib.hid (Tryz.slices_IndexFunc_empty_f118 (α := List UInt8) none c (.func (.func g) #[] lb) w)
 go_enter Tryz.func62, Tryz.ntmps62
 go_wp2_with (go_at_call 118; (with_reducible refine HI.out.mono ?_); rintro e w' ⟨rfl, rfl⟩)
 go_ret
 exact ⟨rfl, rfl⟩

def begin11 (ls : List (List UInt8)) (pre : List UInt8) : List (List UInt8) := ls.filter fun x => Lib.hasPrefix x pre

theorem delf11_calls (base C : Nat) (v : Value) (ls : List (List UInt8)) (pre : ByteArray) (w : World) (hc : w.cell? ⟨C, 0, none⟩ = some (.string pre)) (hC : C < base) (hbase : base ≤ w.heap.size) (hv : w.ownsRow base 9 1 v ls.length (ls.map encStr)) :
  Calls Tryz.prog 62 #[v, .func (.func 60) #[] #[.pointer (some ⟨C, 0, none⟩)]] w fun e w' => ∃ v', e = .returned v' ∧ Txs11 w' v' (begin11 ls pre.data.toList) ∧ Below base w w' := by
 rcases hv.2 with ⟨rfl, h0⟩ | ⟨gb, cap, cur, rfl, hbg, hgb, r1, r2, r3, r4⟩
 ·
  obtain rfl : ls = [] := List.eq_nil_of_length_eq_zero h0
  exact (delnil11_calls _ 0 w ⟨_, _, rfl⟩).mono fun e w' ⟨he, hw⟩ => ⟨_, he, Txs11.nil _, by rw [hw]; exact Below.refl _ _⟩
 ·
  have hH : Holds encStr w gb 0 ls.toArray := holds_of_block hgb (by simpa using r4)
  have hgl : gb < w.heap.size := (Array.getElem?_eq_some_iff.1 hgb).1
  have hpa : PredAt Tryz.prog 60 #[.pointer (some ⟨C, 0, none⟩)] encStr (fun x => !Lib.hasPrefix x pre.data.toList) w := fun W x hb =>
   (list111_calls C pre ⟨x.toArray⟩ W ((hb.cell (p := ⟨C, 0, none⟩) (by show C < _; omega)).trans hc)).mono fun e w' ⟨he, hw⟩ => ⟨he, 0, hw⟩
  have hpo : PredOver Tryz.prog 60 #[.pointer (some ⟨C, 0, none⟩)] encStr (fun x => !Lib.hasPrefix x pre.data.toList) gb 0 ls.toArray.size w := fun n os dk x _ =>
   (list111_calls C pre ⟨x.toArray⟩ _ (by
    unfold sortWorld
    rw [cell?_grow _ _ _ (by show C < (putRow _ _ _ _ _).heap.size; rw [size_putRow]; show C < w.heap.size; omega), cell?_putRow_other _ _ gb 0 _ _ (Or.inl (by show C ≠ gb; omega))]
    exact hc)).mono fun e w' ⟨he, hw⟩ => ⟨he, 0, hw⟩
  have hm : maxLen = 9223372036854775807 := rfl
  have hd := Tryz.slices_DeleteFunc encStr (fun _ => rfl) (fun x => !Lib.hasPrefix x pre.data.toList) _ _ (enters_of Tryz.func60 (by kernel_rfl) rfl) [] (fun w => zero7 w) gb 0 cap ls.toArray w hpa hpo hH (by simp; omega) (by simpa using r1)
  have e1 : (ls.toArray.toList.filter fun x => !(fun x => !Lib.hasPrefix x pre.data.toList) x) = begin11 ls pre.data.toList := by simp [begin11]
  rw [e1] at hd
  have hls : (begin11 ls pre.data.toList).length ≤ ls.length := List.length_filter_le _ _
  generalize begin11 ls pre.data.toList = r at *
  refine (show Calls _ _ #[.slice (some ⟨gb, 0, none⟩) ls.toArray.size cap, _] _ _ from hd.mono ?_)
  rintro e w' ⟨rfl, q, rfl⟩
  refine ⟨_, rfl, ⟨_, _, rfl, fun j hj => ⟨gb, rfl, ?_⟩⟩, ?_⟩
  ·
   have := cell?_putRow encStr (Sort.ahead w q) gb 0 ls.toArray (r ++ List.replicate (ls.toArray.size - r.length) []).toArray (holds_ahead _ _ _ _ _ _ hH) (by simp; omega) j (by simp; omega)
   rw [Nat.zero_add] at this
   rw [this, getElem!_pos _ j (by simp; omega)]
   simp [List.getElem_append_left hj, tx10, encStr]
  ·
   have hg := grownBy_sorted (w := w) (g := gb) (n := q) (os := #[]) (r ++ List.replicate (ls.toArray.size - r.length) []).toArray
   rw [grow_empty] at hg
   exact (Below.refl base w).grown hg hbase (fun k hk => by cases hk; exact hbg)

set_option maxRecDepth 100000 in
theorem sametexts11_calls (v1 v2 : Value) (ls : List (List UInt8)) (w : World) (h1 : Txs11 w v1 ls) (h2 : Txs11 w v2 ls) (hn : ls.length ≤ 9223372036854775807) : Calls Tryz.prog 21 #[v1, v2] w (Tells5 true w) := by
 obtain ⟨A1, c1, rfl, hc1⟩ := h1
 obtain ⟨A2, c2, rfl, hc2⟩ := h2
 have HC1 := Lib.hid hc1
 have HC2 := Lib.hid hc2
 clear hc1 hc2
 obtain ⟨n, hln⟩ : ∃ n, n = ls.length := ⟨_, rfl⟩
 rw [← hln] at hn ⊢
 have HL := Lib.hid hln
 clear hln
 go_enter Tryz.func21, Tryz.ntmps21
 go_wp2
 go_loopg [5, 13] n (fun gg _ s13 wr => ∃ k : Nat, k ≤ n ∧ n - k ≤ gg ∧ s13 = .int .i64 k ∧ Hid (Below w.heap.size w wr))
 case atStart => exact ⟨0, Nat.zero_le _, by omega, rfl, Below.refl _ _⟩
 case round =>
  obtain ⟨k, hk, hg, rfl, HW⟩ := hrel
  by_cases hlt : k < n
  ·
   have hltz : (k : Int) < (n : Int) := by omega
   obtain ⟨g1, rfl, d1⟩ := HC1.out k (HL.out ▸ hlt)
   obtain ⟨g2, rfl, d2⟩ := HC2.out k (HL.out ▸ hlt)
   generalize tx10 (ls[k]'(HL.out ▸ hlt)) = s at *
   have n1 : (s.toList != s.toList) = false := by simp
   have n2 : (s.toList == s.toList) = true := by simp
   have e1 := (HW.out.cell (p := ⟨g1, k, none⟩) (World.block_lt_of_cell? w _ d1)).trans d1
   have e2 := (HW.out.cell (p := ⟨g2, k, none⟩) (World.block_lt_of_cell? w _ d2)).trans d2
   clear d1 d2
   go_wp2
   go_quiet (fail)
   go_wp2
   go_roundg (n - (k + 1))
   case measure => omega
   case rel => exact ⟨k + 1, by omega, by omega, by go_num, below_drewN HW.out _⟩
  ·
   have hltz : ¬ (k : Int) < (n : Int) := by omega
   obtain rfl : k = n := by omega
   go_wp2
   go_ret
   exact ⟨rfl, HW.out⟩


def liL11 (N : List (List UInt8)) (pre : List UInt8) : List (List UInt8) := if pref5 pre then begin11 N pre else []
section
variable {w0 w : World} {D P M G : Nat} {A : Acc11} {L : Row7} {S : Grs10}
set_option maxRecDepth 100000 in
set_option maxHeartbeats 1000000 in
theorem nlist11_calls (pre : ByteArray) (ho : Own11 w0 w D P M G A L S) (hri : RiseV A) (hf : A.length ≤ 12) (hp : pre.size ≤ 9223372036854775807) :
  Calls Tryz.prog 17 #[.pointer (some ⟨D, 0, none⟩), .string pre] w fun e w' => ∃ v, e = .returned (.tuple #[v, .int .i64 (err5 (pref5 pre.data.toList) 10)]) ∧ Txs11 w' v (liL11 (names10 A) pre.data.toList) ∧ Below w.heap.size w w' := by
 have hmf := mkf
 have bl := below_alloc (Below.refl w.heap.size w) (.cells #[.string pre] 9)
 have HP := Lib.hid (Prefix_calls pre (w.alloc (.cells #[.string pre] 9)) hp)
 have HX : Hid ((w.alloc (.cells #[.string pre] 9)).cell? ⟨w.heap.size, 0, none⟩ = some (.string pre)) := by show _ = _; simp
 have HBL := Lib.hid bl
 have HNM : Hid (∀ W, Below (w.alloc (.cells #[.string pre] 9)).heap.size (w.alloc (.cells #[.string pre] 9)) W → Calls Tryz.prog 63 #[.pointer (some ⟨D, 0, none⟩)] W (Names10 (names10 A) W)) := fun W hb => nnames11_calls (ho.later (below_next bl hb)) hri hf
 have hlt : w.heap.size < (w.alloc (.cells #[.string pre] 9)).heap.size := by simp
 clear ho bl hri hf
 generalize names10 A = NN at *
 have HLY : Hid (pref5 pre.data.toList = true → liL11 NN pre.data.toList = begin11 NN pre.data.toList) := fun h => by show _ = _; unfold liL11; rw [if_pos h]
 have HLN : Hid (pref5 pre.data.toList = false → liL11 NN pre.data.toList = []) := fun h => by show _ = _; unfold liL11; rw [if_neg (by rw [h]; decide)]
 generalize liL11 NN pre.data.toList = LL at *
 generalize pref5 pre.data.toList = bp at *
 go_enter Tryz.func17, Tryz.ntmps17
 cases bp with
 | false =>
  obtain rfl := HLN.out rfl
  have HP0 : Hid (Calls Tryz.prog 59 #[.string pre] (w.alloc (.cells #[.string pre] 9)) (Errs5 10 (w.alloc (.cells #[.string pre] 9)))) := HP.out
  clear HP
  go_wp2_with fail
  with_reducible refine HP0.out.mono ?_
  rintro e w2 ⟨rfl, hb⟩
  have HB2 := Lib.hid (below_next HBL.out hb)
  clear hb HP0
  go_wp2
  go_ret2
  exact ⟨_, rfl, Txs11.nil _, HB2.out⟩
 | true =>
  obtain rfl := HLY.out rfl
  have HP0 : Hid (Calls Tryz.prog 59 #[.string pre] (w.alloc (.cells #[.string pre] 9)) (Errs5 0 (w.alloc (.cells #[.string pre] 9)))) := HP.out
  clear HP
  go_wp2_with fail
  generalize w.alloc (.cells #[.string pre] 9) = w1 at *
  generalize hC : w.heap.size = C at *
  with_reducible refine HP0.out.mono ?_
  rintro e w3 ⟨rfl, hb⟩
  have HB3 := Lib.hid hb
  have HN := Lib.hid (HNM.out w3 hb)
  clear hb HP0 HNM
  go_wp2_with fail
  with_reducible refine HN.out.mono ?_
  rintro e w4 ⟨v, rfl, hrow, hb⟩
  obtain ⟨A4, c4, rfl, _⟩ := Txs11.of_own hrow
  have hd2 := delf11_calls w3.heap.size C _ NN pre w4 (((below_next HB3.out hb).cell (p := ⟨C, 0, none⟩) hlt).trans HX.out) (Nat.lt_of_lt_of_le hlt HB3.out.size) hb.size hrow
  have HD2 := Lib.hid hd2
  have HB34 := Lib.hid hb
  clear hb hrow HN hd2
  go_wp2_with fail
  with_reducible refine HD2.out.mono ?_
  rintro e w5 ⟨v', rfl, hv', hb⟩
  have HV := Lib.hid hv'
  have HB5 := Lib.hid (show Below w.heap.size w w5 by subst hC; exact below_next HBL.out (HB3.out.trans ((HB34.out.trans hb).mono (HB3.out.size))))
  obtain ⟨A', c', rfl, hvx⟩ := hv'
  clear hb HD2 hvx
  subst hC
  generalize hbl : List.length (begin11 NN pre.data.toList) = nb at *
  go_wp2
  go_ret2
  exact ⟨_, rfl, (show Hid _ from HV).out, HB5.out⟩
end
end Go.Proofs.YthlgmkfofebbfaaGreatDoor


namespace Go.Proofs.YthlgmkfofebbfaaGreatDoor
open Go.RowKit Go.Maps Go.Sort Go.Shelf
set_option linter.unusedVariables false


section
variable {A : Acc11} {L : Row7} {S : Grs10} {k : Nat} {R : RowV W11}
theorem told_row (hp : plainR R = tell11 A L S) {j : Nat} (hj : j < R.length) : ∃ p ∈ A, p.1 = R[j].1 ∧ tell1 L S p.1 p.2 = R[j].2.u := by
 have h1 : (R[j].1, R[j].2.u) ∈ plainR R := List.mem_map.2 ⟨R[j], List.getElem_mem hj, rfl⟩
 rw [hp] at h1
 obtain ⟨p, hp', e⟩ := List.mem_map.1 h1
 injection e with e1 e2
 exact ⟨p, hp', e1, e2⟩
theorem row_told (hp : plainR R = tell11 A L S) {p : List UInt8 × (List UInt8 × Bool)} (h : p ∈ A) : ∃ j, ∃ hj : j < R.length, p.1 = R[j].1 ∧ tell1 L S p.1 p.2 = R[j].2.u := by
 have h1 : (p.1, tell1 L S p.1 p.2) ∈ tell11 A L S := List.mem_map.2 ⟨p, h, rfl⟩
 rw [← hp] at h1
 obtain ⟨q, hq, e⟩ := List.mem_map.1 h1
 obtain ⟨j, hj, rfl⟩ := List.getElem_of_mem hq
 injection e with e1 e2
 exact ⟨j, hj, e1.symm, e2.symm⟩
theorem find_hit11 (hg : Good11 A L S k) (hp : plainR R = tell11 A L S) {m : List UInt8} (hm : mail5 m = true) {j : Nat} (hj : j < R.length) (he : R[j].2.ml.data.toList = fold5 m) : fiE9 L m = 0 ∧ fiS9 L m = R[j].1 := by
 obtain ⟨M, hM⟩ := hg.mir
 obtain ⟨p, _, e1, e2⟩ := told_row hp hj
 have h1 : getE L p.1 = fold5 m := by rw [← he]; exact congrArg U11.ml e2
 have h2 : (p.1, fold5 m) ∈ L := has_of_get h1 (fold_ne hm)
 have h3 : fiE9 L m = 0 := by unfold fiE9; rw [if_pos hm, if_pos (mem_hasO h2)]
 refine ⟨h3, ?_⟩
 unfold fiS9
 rw [if_pos h3, hM.own h2, e1]
theorem find_none11 (hg : Good11 A L S k) (hp : plainR R = tell11 A L S) {m : List UInt8} (hm : mail5 m = true) (h : ∀ j (hj : j < R.length), R[j].2.ml.data.toList ≠ fold5 m) : fiE9 L m = 8 ∧ fiS9 L m = [] := by
 have h1 : hasO L (fold5 m) = false := by
  cases hh : hasO L (fold5 m) with
  | false => rfl
  | true =>
   have h3 := hasO_mem hh
   obtain ⟨p, hp', e⟩ := hasV_iff.1 (hg.has _ h3)
   obtain ⟨j, hj, _, e2⟩ := row_told hp hp'
   refine absurd ?_ (h j hj)
   have h4 : getE L p.1 = fold5 m := by rw [e]; exact get_mem hg.lrise h3
   rw [← h4]
   exact (congrArg U11.ml e2).symm
 have h3 : fiE9 L m = 8 := by unfold fiE9; rw [if_pos hm, h1]; rfl
 refine ⟨h3, ?_⟩
 unfold fiS9
 rw [if_neg (by rw [h3]; decide)]
theorem find_bad11 {m : List UInt8} (hm : mail5 m = false) : fiE9 L m = 11 ∧ fiS9 L m = [] := by
 have h3 : fiE9 L m = 11 := by unfold fiE9; rw [if_neg (by rw [hm]; decide)]
 refine ⟨h3, ?_⟩
 unfold fiS9
 rw [if_neg (by rw [h3]; decide)]
theorem rows_facts_mem (hg : Good11 A L S k) (hp : plainR R = tell11 A L S) : ∀ p ∈ R, p.2.gs.length ≤ 12 := fun p hpp => by
 have hf := hg.grp.few
 have h1 : (p.1, p.2.u) ∈ plainR R := List.mem_map.2 ⟨p, hpp, rfl⟩
 rw [hp] at h1
 obtain ⟨q, _, e⟩ := List.mem_map.1 h1
 injection e with _ e
 have : p.2.gs = of10 S q.1 := (congrArg U11.gs e).symm
 rw [this]
 have := of10_le S q.1
 omega
def who11 (R : RowV W11) (g : List UInt8) : List (List UInt8) := (R.filter fun p => hasT p.2.gs g).map (·.1)
theorem who_step11 (R : RowV W11) (g : List UInt8) {k : Nat} (hk : k < R.length) : who11 (R.take (k + 1)) g = who11 (R.take k) g ++ if hasT R[k].2.gs g then [R[k].1] else [] := by
 unfold who11
 rw [List.take_succ_eq_append_getElem hk, List.filter_append, List.map_append]
 cases h : hasT R[k].2.gs g <;> simp [h]
theorem who_le11 (R : RowV W11) (g : List UInt8) (k : Nat) : (who11 (R.take k) g).length ≤ R.length := by
 unfold who11
 rw [List.length_map]
 exact Nat.le_trans (List.length_filter_le _ _) (by simp; omega)
theorem who_same11 (hg : Good11 A L S k) (hp : plainR R = tell11 A L S) (hr : RiseV R) {g : List UInt8} (hn : name5 g = true) (hh : hasT (names10 S) g = true) : drE10 S g = 0 ∧ who11 R g = meL10 S g := by
 have h0 : drE10 S g = 0 := by
  have : hasV S g = true := by
   obtain ⟨p, hp', e⟩ := List.mem_map.1 (hasT_iff.1 hh)
   exact hasV_iff.2 ⟨p, hp', e⟩
  unfold drE10 findE10
  rw [hn, this]; rfl
 refine ⟨h0, ?_⟩
 unfold meL10
 rw [if_pos h0]
 have hf : RiseV (R.filter fun p => hasT p.2.gs g) := List.Pairwise.filter _ hr
 refine riseT_ext (show RiseT (who11 R g) from hf.names) (mem10_rise hg.grp g).names fun x => ?_
 have hin : x ∈ names10 (mem10 S g) ↔ in10 S g x = true := by
  unfold in10
  rw [hasV_iff]
  constructor
  ·
   intro h; obtain ⟨p, hp', e⟩ := List.mem_map.1 h; exact ⟨p, hp', e⟩
  ·
   rintro ⟨p, hp', e⟩; exact List.mem_map.2 ⟨p, hp', e⟩
 rw [hin]
 constructor
 ·
  intro h
  obtain ⟨q, hq, rfl⟩ := List.mem_map.1 h
  obtain ⟨hq1, hq2⟩ := List.mem_filter.1 hq
  obtain ⟨j, hj, rfl⟩ := List.getElem_of_mem hq1
  obtain ⟨p, _, e1, e2⟩ := told_row hp hj
  have e3 : R[j].2.gs = of10 S p.1 := (congrArg U11.gs e2).symm
  rw [e3, e1] at hq2
  exact (of10_mem hg.grp.rise).1 (hasT_iff.1 hq2)
 ·
  intro h
  obtain ⟨p, hp', e⟩ := hasV_iff.1 (hg.mem g x h)
  obtain ⟨j, hj, e1, e2⟩ := row_told hp hp'
  refine List.mem_map.2 ⟨R[j], List.mem_filter.2 ⟨List.getElem_mem hj, ?_⟩, by rw [← e1, e]⟩
  have e3 : R[j].2.gs = of10 S p.1 := (congrArg U11.gs e2).symm
  rw [e3, e]
  exact hasT_iff.2 ((of10_mem hg.grp.rise).2 h)
theorem who_bad11 {g : List UInt8} (hn : name5 g = false) : drE10 S g = 10 ∧ meL10 S g = [] := by
 have h0 : drE10 S g = 10 := by unfold drE10 findE10; rw [hn]; rfl
 exact ⟨h0, by unfold meL10; rw [if_neg (by rw [h0]; decide)]⟩
theorem who_none11 {g : List UInt8} (hn : name5 g = true) (hh : hasT (names10 S) g = false) : drE10 S g = 8 ∧ meL10 S g = [] := by
 have : hasV S g = false := by
  cases h : hasV S g with
  | false => rfl
  | true =>
   obtain ⟨p, hp', e⟩ := hasV_iff.1 h
   exact absurd (List.mem_map.2 ⟨p, hp', e⟩) (hasT_false.1 hh)
 have h0 : drE10 S g = 8 := by unfold drE10 findE10; rw [hn, this]; rfl
 exact ⟨h0, by unfold meL10; rw [if_neg (by rw [h0]; decide)]⟩
end
set_option maxRecDepth 100000 in
set_option maxHeartbeats 1000000 in
theorem rlookup11_calls (v vg : Value) (R : RowV W11) (N : List (List UInt8)) (s : ByteArray) (w : World) (hR : Rc11 0 R w v) (hN : NmR w vg N) (h12 : R.length ≤ 12) (hr : RiseV R) (hs : s.size ≤ 1000) :
  Calls Tryz.prog 13 #[.agg #[v, vg], .string s] w (User11 R s w) := by
 have hzu := zerou11
 obtain ⟨A, c, rfl⟩ := hR.rw.us.shape
 obtain ⟨A1, c1, rfl⟩ := hN.shape
 have hb1 := below_alloc (Below.refl w.heap.size w) (.cells #[.slice A R.length c, .slice A1 N.length c1] TD11)
 have hb2 := below_alloc hb1 (.cells #[.string ⟨#[]⟩, .string ⟨#[]⟩, .string ⟨#[]⟩, .bool false, .slice none 0 0] 37)
 have HU := Lib.hid (ruser11_calls _ _ R N s _ (hR.later hb2) (hN.later hb2) h12 hr hs)
 have HB := Lib.hid hb2
 have HS : Hid (w.heap.size + 1 < ((w.alloc (.cells #[.slice A R.length c, .slice A1 N.length c1] TD11)).alloc (.cells #[.string ⟨#[]⟩, .string ⟨#[]⟩, .string ⟨#[]⟩, .bool false, .slice none 0 0] 37)).heap.size) := by show _ < _; simp
 have HBK : Hid (Blk5 ((w.alloc (.cells #[.slice A R.length c, .slice A1 N.length c1] TD11)).alloc (.cells #[.string ⟨#[]⟩, .string ⟨#[]⟩, .string ⟨#[]⟩, .bool false, .slice none 0 0] 37)) (w.heap.size + 1) (.string ⟨#[]⟩) (.string ⟨#[]⟩) (.string ⟨#[]⟩) (.bool false) (.slice none 0 0)) := by
  have := (MapKept.heap_alloc (w.alloc (.cells #[.slice A R.length c, .slice A1 N.length c1] TD11)) (.cells #[.string ⟨#[]⟩, .string ⟨#[]⟩, .string ⟨#[]⟩, .bool false, .slice none 0 0] 37)).1
  rw [show (w.alloc (.cells #[.slice A R.length c, .slice A1 N.length c1] TD11)).heap.size = w.heap.size + 1 by simp] at this
  exact this
 clear hR hN hb1 hb2
 generalize List.length R = nR at *
 generalize List.length N = nN at *
 unfold User11 at *
 generalize deF11 (name5 s.data.toList) (hasV R s.data.toList) = er at *
 go_enter Tryz.func13, Tryz.ntmps13
 go_wp2_with fail
 generalize (w.alloc (.cells #[.slice A nR c, .slice A1 nN c1] TD11)).alloc (.cells #[.string ⟨#[]⟩, .string ⟨#[]⟩, .string ⟨#[]⟩, .bool false, .slice none 0 0] 37) = w1 at *
 with_reducible refine HU.out.mono ?_
 rintro e w2 ⟨t, x, rfl, he0, he1, hb⟩
 have HE0 := Lib.hid he0
 have HE1 := Lib.hid he1
 have hz := blk_later11 HBK.out hb
 obtain ⟨s1, s2, _⟩ := set5_11 (below_next HB.out hb) (Nat.le_succ _) hz (.string t) (.string x.hs) (.string x.ml) (.bool x.dis) (.slice x.ga x.gs.length x.gc)
 have HBB := Lib.hid s2
 clear he0 he1 hb HU HB HS HBK s2
 unfold uval11 at *
 generalize hx1 : x.hs = xh at *
 generalize hx2 : x.ml = xm at *
 generalize hx3 : x.dis = xd at *
 generalize hx4 : x.ga = xa at *
 generalize hx5 : x.gs.length = xn at *
 generalize hx6 : x.gc = xc at *
 have HX : Hid (x.hs = xh ∧ x.ml = xm ∧ x.dis = xd ∧ x.ga = xa ∧ x.gs.length = xn ∧ x.gc = xc) := ⟨hx1, hx2, hx3, hx4, hx5, hx6⟩
 clear hx1 hx2 hx3 hx4 hx5 hx6
 have f1 := hz.free
 have q0 : _ = some (.string t : Value) := s1.at_ 0
 have q1 : _ = some (.string xh : Value) := s1.at_ 1
 have q2 : _ = some (.string xm : Value) := s1.at_ 2
 have q3 : _ = some (.bool xd : Value) := s1.at_ 3
 have q4 : _ = some (.slice xa xn xc : Value) := s1.at_ 4
 have r0 : _ = some (.string ⟨#[]⟩ : Value) := hz.at_ 0
 have r1 : _ = some (.string ⟨#[]⟩ : Value) := hz.at_ 1
 have r2 : _ = some (.string ⟨#[]⟩ : Value) := hz.at_ 2
 have r3 : _ = some (.bool false : Value) := hz.at_ 3
 have r4 : _ = some (.slice none 0 0 : Value) := hz.at_ 4
 clear hz s1
 unfold set5 at q0 q1 q2 q3 q4 HBB
 go_wp2
 refine bodyPost_ret (v := .tuple #[.agg #[.string t, .string xh, .string xm, .bool xd, .slice xa xn xc], .int .i64 er]) ?_ rfl ⟨t, x, ?_, HE0.out, HE1.out, HBB.out⟩
 ·
  simp [results, Tryz.results13, go_sem, q0, q1, q2, q3, q4]
 ·
  obtain ⟨rfl, rfl, rfl, rfl, rfl, rfl⟩ := HX.out
  rfl

theorem mailT_yes {m : List UInt8} (h : mail5 m = true) : (mailT m).data.toList = fold5 m := by unfold mailT; rw [if_pos h]
set_option maxRecDepth 100000 in
set_option maxHeartbeats 2000000 in
theorem rfindm11_calls {A : Acc11} {L : Row7} {S : Grs10} {k0 : Nat} (v vg : Value) (R : RowV W11) (N : List (List UInt8)) (m : ByteArray) (w : World) (hg : Good11 A L S k0) (hp : plainR R = tell11 A L S) (hR : Rc11 0 R w v) (hN : NmR w vg N) (h12 : R.length ≤ 12) (hm : m.size ≤ 1000) :
  Calls Tryz.prog 15 #[.agg #[v, vg], .string m] w fun e w' => e = .returned (.tuple #[.string (tx7 (fiS9 L m.data.toList)), .int .i64 (fiE9 L m.data.toList)]) ∧ Below w.heap.size w w' := by
 have hnot : ∀ (x : Bool) (w : World), (Op.unary .not (.bool x)).run Tryz.prog w = .ok (.bool (!x)) w := fun _ _ => rfl
 obtain ⟨A0, c, rfl⟩ := hR.rw.us.shape
 obtain ⟨A1, c1, rfl⟩ := hN.shape
 have hb1 := below_alloc (Below.refl w.heap.size w) (.cells #[.slice A0 R.length c, .slice A1 N.length c1] TD11)
 have HM := Lib.hid (rmail_calls m (w.alloc (.cells #[.slice A0 R.length c, .slice A1 N.length c1] TD11)) hm)
 have HB := Lib.hid hb1
 have HX := Lib.hid (bx11_new w (.slice A0 R.length c) (.slice A1 N.length c1))
 have HU := Lib.hid (hR.rw.us.later hb1)
 have HG := Lib.hid hg
 have HP := Lib.hid hp
 clear hR hN hb1 hg hp
 obtain ⟨n, hn⟩ : ∃ n, n = R.length := ⟨_, rfl⟩
 rw [← hn] at HM HB HX HU h12 ⊢
 have HL := Lib.hid hn
 clear hn
 generalize List.length N = nN at *
 unfold RMails5 at HM
 cases hmb : mail5 m.data.toList with
 | false =>
  rw [hmb] at HM
  obtain ⟨e1, e2⟩ := find_bad11 (L := L) hmb
  rw [e1, e2]
  generalize mailT m.data.toList = mt at *
  clear hmb e1 e2 HG HP
  go_enter Tryz.func15, Tryz.ntmps15
  go_wp2_with fail
  with_reducible refine HM.out.mono ?_
  rintro e w2 ⟨rfl, q, rfl⟩
  have HB2 := Lib.hid (below_drewN HB.out q)
  clear HM
  go_wp2
  go_ret2
  exact ⟨rfl, HB2.out⟩
 | true =>
  rw [hmb] at HM
  have HHIT : Hid (∀ j (hj : j < R.length), R[j].2.ml.data.toList = (mailT m.data.toList).data.toList → fiE9 L m.data.toList = 0 ∧ fiS9 L m.data.toList = R[j].1) := fun j hj he => find_hit11 HG.out HP.out hmb hj (by rw [he, mailT_yes hmb])
  have HNON : Hid ((∀ j (hj : j < R.length), R[j].2.ml.data.toList ≠ (mailT m.data.toList).data.toList) → fiE9 L m.data.toList = 8 ∧ fiS9 L m.data.toList = []) := fun h => find_none11 HG.out HP.out hmb (fun j hj => by rw [← mailT_yes hmb]; exact h j hj)
  generalize mailT m.data.toList = mt at *
  generalize fiE9 L m.data.toList = fe at *
  generalize fiS9 L m.data.toList = fs at *
  clear hmb HG HP
  go_enter Tryz.func15, Tryz.ntmps15
  go_wp2_with fail
  with_reducible refine HM.out.mono ?_
  rintro e w2 ⟨rfl, q, rfl⟩
  have hbq := below_drewN (Below.refl _ (w.alloc (.cells #[.slice A0 n c, .slice A1 nN c1] TD11))) q
  have HB2 := Lib.hid (below_drewN HB.out q)
  have HX2 := Lib.hid (HX.out.later hbq)
  have HU2 := Lib.hid (HU.out.later hbq)
  clear HM HB HX HU hbq
  generalize World.drewN _ q = w2 at *
  have x0 := HX2.out.c0
  have x1 := HX2.out.c1
  go_wp2
  go_loopg [9, 20] n (fun gg _ s20 wr => ∃ k : Nat, k ≤ n ∧ n - k ≤ gg ∧ s20 = .int .i64 k ∧ Hid (Below w2.heap.size w2 wr) ∧ Hid (∀ j (h : j < R.length), j < k → R[j].2.ml.data.toList ≠ mt.data.toList))
  case atStart => exact ⟨0, Nat.zero_le _, by omega, rfl, Below.refl _ _, fun j _ hj => absurd hj (Nat.not_lt_zero _)⟩
  case round =>
   obtain ⟨k, hk, hg, rfl, HW, A9⟩ := hrel
   clear x0 x1
   by_cases hlt : k < n
   ·
    have hltz : (k : Int) < (n : Int) := by omega
    have hkl : k < R.length := HL.out ▸ hlt
    obtain ⟨g, rfl, d0, d1, d2, d3, d4⟩ := (HU2.out.later HW.out).at_ k hkl
    have HB3 := Lib.hid (below_next (below_next HB2.out HW.out) (below_alloc (Below.refl wr.heap.size wr) (.cells #[.string (tx10 R[k].1), .string R[k].2.hs, .string R[k].2.ml, .bool R[k].2.dis, .slice R[k].2.ga R[k].2.gs.length R[k].2.gc] 37)))
    have HB4 := Lib.hid (below_next HW.out (below_alloc (Below.refl wr.heap.size wr) (.cells #[.string (tx10 R[k].1), .string R[k].2.hs, .string R[k].2.ml, .bool R[k].2.dis, .slice R[k].2.ga R[k].2.gs.length R[k].2.gc] 37)))
    have HH := Lib.hid (HHIT.out k hkl)
    have HN : Hid (R[k].2.ml.data.toList ≠ mt.data.toList → ∀ j (h : j < R.length), j < k + 1 → R[j].2.ml.data.toList ≠ mt.data.toList) := fun hq j h hj => by
     by_cases e : j = k
     ·
      subst e; exact hq
     ·
      exact A9.out j h (by omega)
    have HT : Hid (tx7 R[k].1 = tx10 R[k].1) := rfl
    clear A9
    generalize R[k].2.hs = sh at *
    generalize R[k].2.ml = sm at *
    generalize R[k].2.dis = sd at *
    generalize R[k].2.ga = sa at *
    generalize R[k].2.gs.length = sn at *
    generalize R[k].2.gc = sc at *
    generalize R[k].1 = rk at *
    by_cases he : sm.data.toList = mt.data.toList
    ·
     obtain ⟨a1, a2⟩ := eqs10 he
     obtain ⟨e1, e2⟩ := HH.out he
     clear he HH HN HT HHIT HNON
     replace e1 := e1.symm
     replace e2 := e2.symm
     subst e1
     subst e2
     go_wp2
     go_ret2
     exact ⟨rfl, HB3.out⟩
    ·
     obtain ⟨a1, a2⟩ := nes10 he
     have HY := Lib.hid (HN.out he)
     generalize tx10 rk = nm at *
     clear he HH HN
     go_wp2
     go_roundg (n - (k + 1))
     case measure => omega
     case rel => exact ⟨k + 1, by omega, by omega, by go_num, HB4, HY⟩
   ·
    have hltz : ¬ (k : Int) < (n : Int) := by omega
    obtain rfl : k = n := by omega
    obtain ⟨e1, e2⟩ := HNON.out (fun j hj => A9.out j hj (by have := HL.out; omega))
    have HB3 := Lib.hid (below_next HB2.out HW.out)
    clear A9 HHIT HNON
    replace e1 := e1.symm
    replace e2 := e2.symm
    subst e1
    subst e2
    go_wp2
    go_ret2
    exact ⟨rfl, HB3.out⟩

def Lists11 (x : Int) (ls : List (List UInt8)) (w : World) (e : Ending) (w' : World) : Prop := ∃ v, e = .returned (.tuple #[v, .int .i64 x]) ∧ Txs11 w' v ls ∧ Below w.heap.size w w'
theorem begin_step11 {L : RowV W11} {pre : List UInt8} {k : Nat} (hk : k < L.length) : begin11 ((L.take (k + 1)).map (·.1)) pre = begin11 ((L.take k).map (·.1)) pre ++ if Lib.hasPrefix L[k].1 pre then [L[k].1] else [] := by
 unfold begin11
 rw [List.take_succ_eq_append_getElem hk, List.map_append, List.filter_append]
 cases h : Lib.hasPrefix L[k].1 pre <;> simp [h]
theorem begin_le11 (L : RowV W11) (pre : List UInt8) (k : Nat) : (begin11 ((L.take k).map (·.1)) pre).length ≤ L.length := Nat.le_trans (List.length_filter_le _ _) (by simp; omega)
theorem begin_size11 (s p : ByteArray) : Lib.hasPrefix s.data.toList p.data.toList = (decide (p.size ≤ s.size) && ((s.extract 0 p.size).toList == p.toList)) := by
 rw [← Lib.hasPrefix_of_take, ← Lib.size_eq, ← Lib.size_eq, Lib.extract_toList, Lib.toList_data]
 simp
set_option maxRecDepth 100000 in
set_option maxHeartbeats 2000000 in
theorem rlist11_calls (v : Value) (L : RowV W11) (pre : ByteArray) (w : World) (hv : Us11r w v L) (h12 : L.length ≤ 12) (hp : pre.size ≤ 1000) :
  Calls Tryz.prog 18 #[v, .string pre] w (Lists11 (err5 (pref5 pre.data.toList) 10) (liL11 (names10 L) pre.data.toList) w) := by
 have hnot : ∀ (x : Bool) (w : World), (Op.unary .not (.bool x)).run Tryz.prog w = .ok (.bool (!x)) w := fun _ _ => rfl
 have HN := Lib.hid (rprefix_calls pre w hp)
 obtain ⟨A, c, rfl⟩ := hv.shape
 have HA := Lib.hid hv
 clear hv
 obtain ⟨i0, hi, hz0, hz1, hz2⟩ := info_parts infoStr11
 have HLY : Hid (pref5 pre.data.toList = true → liL11 (names10 L) pre.data.toList = begin11 (L.map (·.1)) pre.data.toList) := fun h => by show _ = _; unfold liL11; rw [if_pos h]; rfl
 have HLN : Hid (pref5 pre.data.toList = false → liL11 (names10 L) pre.data.toList = []) := fun h => by show _ = _; unfold liL11; rw [if_neg (by rw [h]; decide)]
 generalize liL11 (names10 L) pre.data.toList = ls at *
 generalize pref5 pre.data.toList = bp at *
 obtain ⟨n, hn⟩ : ∃ n, n = L.length := ⟨_, rfl⟩
 rw [← hn] at h12 ⊢
 have HL := Lib.hid hn
 have HA2 : Hid (Us11r w (.slice A n c) L) := by rw [hn]; exact HA
 clear hn HA
 go_enter Tryz.func18, Tryz.ntmps18
 go_wp2_with fail
 with_reducible refine HN.out.mono ?_
 rintro e w1 ⟨rfl, rfl⟩
 cases bp with
 | false =>
  obtain rfl := HLN.out rfl
  go_wp2
  go_ret2
  exact ⟨_, rfl, Txs11.nil _, Below.refl _ _⟩
 | true =>
 obtain rfl := HLY.out rfl
 go_wp2
 go_loopg [6, 8, 14] n (fun gg s6 _ s14 wr => ∃ k : Nat, k ≤ n ∧ n - k ≤ gg ∧ s14 = .int .i64 k ∧ Hid (Below w1.heap.size w1 wr) ∧ Hid (wr.ownsRow w1.heap.size 9 1 s6 (begin11 ((L.take k).map (·.1)) pre.data.toList).length ((begin11 ((L.take k).map (·.1)) pre.data.toList).map encStr)))
 case atStart => exact ⟨0, Nat.zero_le _, by omega, rfl, Below.refl _ _, World.ownsRow_nil _ _ _ _⟩
 case round =>
  obtain ⟨k, hk, hg, rfl, HW, HU⟩ := hrel
  have hlen := begin_le11 L pre.data.toList k
  rw [← HL.out] at hlen
  by_cases hlt : k < n
  ·
   have hltz : (k : Int) < (n : Int) := by omega
   have hkl : k < L.length := HL.out ▸ hlt
   obtain ⟨g, rfl, d0, d1, d2, d3, d4⟩ := (HA2.out.later HW.out).at_ k hkl
   have hst := begin_step11 (pre := pre.data.toList) hkl
   have HST := Lib.hid hst
   have HBE : Hid (Lib.hasPrefix L[k].1 pre.data.toList = (decide (pre.size ≤ (tx10 L[k].1).size) && (((tx10 L[k].1).extract 0 pre.size).toList == pre.toList))) := by
    have := begin_size11 (tx10 L[k].1) pre
    rwa [tx10_list] at this
   have HEN : Hid (encStr L[k].1 = .string (tx10 L[k].1)) := rfl
   have HWV := Lib.hid (below_next HW.out (below_alloc (Below.refl wr.heap.size wr) (.cells #[.string (tx10 L[k].1), .string L[k].2.hs, .string L[k].2.ml, .bool L[k].2.dis, .slice L[k].2.ga L[k].2.gs.length L[k].2.gc] 37)))
   have HUV := Lib.hid (HU.out.alloc (.cells #[.string (tx10 L[k].1), .string L[k].2.hs, .string L[k].2.ml, .bool L[k].2.dis, .slice L[k].2.ga L[k].2.gs.length L[k].2.gc] 37))
   clear hst
   generalize Lib.hasPrefix L[k].1 pre.data.toList = bg at *
   generalize L[k].2.hs = sh at *
   generalize L[k].2.ml = sm at *
   generalize L[k].2.dis = sd at *
   generalize L[k].2.ga = sa at *
   generalize L[k].2.gs.length = sn at *
   generalize L[k].2.gc = sc at *
   generalize L[k].1 = qk at *
   generalize tx10 qk = nm at *
   by_cases hle : pre.size ≤ nm.size
   case neg =>
    have hbf : bg = false := by rw [HBE.out, decide_eq_false hle]; rfl
    subst hbf
    have y1 : ¬ (nm.size : Int) ≥ (pre.size : Int) := by omega
    have y2 : decide ((nm.size : Int) ≥ (pre.size : Int)) = false := decide_eq_false y1
    clear HBE
    go_wp2
    go_roundg (n - (k + 1))
    case measure => omega
    case rel => exact ⟨k + 1, by omega, by omega, by go_num, HWV, (by show World.ownsRow _ _ _ _ _ _ _; rw [HST.out]; simpa using HUV.out)⟩
   have y1 : (nm.size : Int) ≥ (pre.size : Int) := by omega
   have y2 : decide ((nm.size : Int) ≥ (pre.size : Int)) = true := decide_eq_true y1
   have y3 : (pre.size : Int) ≤ (nm.size : Int) := y1
   cases hbq : ((nm.extract 0 pre.size).toList == pre.toList) with
   | false =>
    have hbf : bg = false := by rw [HBE.out, hbq]; simp
    subst hbf
    have hbq2 : ¬ (nm.extract 0 pre.size).toList = pre.toList := by simpa using hbq
    clear HBE
    go_wp2
    go_roundg (n - (k + 1))
    case measure => omega
    case rel => exact ⟨k + 1, by omega, by omega, by go_num, HWV, (by show World.ownsRow _ _ _ _ _ _ _; rw [HST.out]; simpa using HUV.out)⟩
   | true =>
    have hbt : bg = true := by rw [HBE.out, hbq, decide_eq_true hle]; rfl
    subst hbt
    have hbq2 : (nm.extract 0 pre.size).toList = pre.toList := by simpa using hbq
    clear HBE
    go_wp2_with (first
     | (at_builtin; refine wpList_append_own _ rfl _ _ 28 rfl w1.heap.size 9 i0 (.string ⟨#[]⟩) 1 16 Tryz.underlying28 hi hz0 hz1 hz2 rfl (by decide) _ _ _ rfl (HUV.out.alloc _) ⟨wr.heap.size + 1, 0, none⟩ 1 1 [.string nm] rfl rfl (fun j u hu => by rw [Addr.add_lit, Nat.zero_add, World.cell?_alloc_at _ _ _ _ (by simp)]; simpa using hu) (by simp [Value.oneCell']) (by unfold maxLen; omega) (by omega) (by have := HW.out.size; simp; omega) ?_; intro v2 w2 hown' hgrow _; have HO2 := Lib.hid hown'; have HG2 := Lib.hid hgrow; clear hown' hgrow)
     | fail)
    have ho := HO2.out
    rw [← HEN.out] at ho
    have R1 := Lib.hid ((below_next HWV.out (below_alloc (Below.refl _ _) _)).grown HG2.out (by have := HW.out.size; simp; omega) (fun j hj => (HUV.out.lt j hj).1))
    have R2 : Hid (w2.ownsRow w1.heap.size 9 1 v2 (begin11 ((L.take (k + 1)).map (·.1)) pre.data.toList).length ((begin11 ((L.take (k + 1)).map (·.1)) pre.data.toList).map encStr)) := by
     show World.ownsRow _ _ _ _ _ _ _
     rw [HST.out]
     simpa using ho
    clear ho hbq hbq2
    go_roundg (n - (k + 1))
    case measure => omega
    case rel => exact ⟨k + 1, by omega, by omega, by go_num, R1, R2⟩
  ·
   have hltz : ¬ (k : Int) < (n : Int) := by omega
   obtain rfl : k = n := by omega
   have hu := HU.out
   rw [List.take_of_length_le (by have := HL.out; omega)] at hu
   have ht := Txs11.of_own hu
   have HT := Lib.hid ht
   clear hu ht
   go_wp2
   go_ret2
   exact ⟨_, rfl, HT.out, HW.out⟩


set_option maxRecDepth 100000 in
set_option maxHeartbeats 4000000 in
theorem rmembers11_calls {A : Acc11} {L : Row7} {S : Grs10} {k0 : Nat} (v vg : Value) (R : RowV W11) (s : ByteArray) (w : World) (hg : Good11 A L S k0) (hp : plainR R = tell11 A L S) (hr : RiseV R) (hR : Rc11 0 R w v) (hN : NmR w vg (names10 S)) (h12 : R.length ≤ 12) (hs : s.size ≤ 1000) :
  Calls Tryz.prog 20 #[.agg #[v, vg], .string s] w fun e w' => ∃ v', e = .returned (.tuple #[v', .int .i64 (drE10 S s.data.toList)]) ∧ NmR w' v' (meL10 S s.data.toList) ∧ Below w.heap.size w w' := by
 have hnot : ∀ (x : Bool) (w : World), (Op.unary .not (.bool x)).run Tryz.prog w = .ok (.bool (!x)) w := fun _ _ => rfl
 obtain ⟨i0, hi, hz0, hz1, hz2⟩ := info_parts infoStr11
 obtain ⟨A0, c, rfl⟩ := hR.rw.us.shape
 obtain ⟨A1, c1, rfl⟩ := hN.shape
 have hb1 := below_alloc (Below.refl w.heap.size w) (.cells #[.slice A0 R.length c, .slice A1 (names10 S).length c1] TD11)
 have HB0 := Lib.hid hb1
 have HX := Lib.hid (bx11_new w (.slice A0 R.length c) (.slice A1 (names10 S).length c1))
 have HRC := Lib.hid (hR.later hb1)
 have hsl : (names10 S).length ≤ 1000 := by rw [names10_length]; exact Nat.le_trans hg.grp.few (by decide)
 have HHS : Hid (Calls Tryz.prog 67 #[.slice A1 (names10 S).length c1, .string s] (w.alloc (.cells #[.slice A0 R.length c, .slice A1 (names10 S).length c1] TD11)) (Tells5 (hasT (names10 S) s.data.toList) (w.alloc (.cells #[.slice A0 R.length c, .slice A1 (names10 S).length c1] TD11)))) := rhas11_calls _ (names10 S) s _ hsl (hN.later hb1)
 have HNM := Lib.hid (fun W => rname_calls s W hs)
 have HQY : Hid (name5 s.data.toList = true → hasT (names10 S) s.data.toList = true → drE10 S s.data.toList = 0 ∧ who11 R s.data.toList = meL10 S s.data.toList) := who_same11 hg hp hr
 have HQN : Hid (name5 s.data.toList = true → hasT (names10 S) s.data.toList = false → drE10 S s.data.toList = 8 ∧ meL10 S s.data.toList = []) := who_none11
 have HQB : Hid (name5 s.data.toList = false → drE10 S s.data.toList = 10 ∧ meL10 S s.data.toList = []) := who_bad11
 have HGL : Hid (∀ j (hj : j < R.length), R[j].2.gs.length ≤ 1000) := fun j hj => by
  have := (rows_facts_mem hg hp) R[j] (List.getElem_mem hj)
  omega
 clear hN hb1 hg hp hr hR hsl
 obtain ⟨n, hn⟩ : ∃ n, n = R.length := ⟨_, rfl⟩
 rw [← hn] at HB0 HX HRC HHS h12 ⊢
 have HL := Lib.hid hn
 clear hn
 generalize (names10 S).length = nN at *
 generalize hasT (names10 S) s.data.toList = bh at *
 generalize name5 s.data.toList = bn at *
 generalize drE10 S s.data.toList = er at *
 generalize meL10 S s.data.toList = ml at *
 have HSZ : Hid ((w.alloc (.cells #[.slice A0 n c, .slice A1 nN c1] TD11)).heap.size = w.heap.size + 1) := by show _ = _; simp
 go_enter Tryz.func20, Tryz.ntmps20
 go_wp2_with fail
 generalize w.alloc (.cells #[.slice A0 n c, .slice A1 nN c1] TD11) = w1 at *
 with_reducible refine (HNM.out w1).mono ?_
 rintro e w2 ⟨rfl, rfl⟩
 clear HNM
 cases bn with
 | false =>
  obtain ⟨rfl, rfl⟩ := HQB.out rfl
  clear HQY HQN HQB HHS HGL
  go_wp2
  go_ret2
  exact ⟨_, rfl, NmR.nil _, HB0.out⟩
 | true =>
 have x1 := HX.out.c1
 have xl := HX.out.lt
 go_wp2_with fail
 with_reducible refine HHS.out.mono ?_
 rintro e w3 ⟨rfl, hb⟩
 have HB3 := Lib.hid (below_next HB0.out hb)
 have HX3 := Lib.hid (HX.out.later hb)
 have HRC3 := Lib.hid (HRC.out.later hb)
 clear hb HHS x1 xl HX HRC
 cases bh with
 | false =>
  obtain ⟨rfl, rfl⟩ := HQN.out (by first | rfl | trivial) (by first | rfl | trivial)
  clear HQY HQN HQB HGL
  go_wp2
  go_ret2
  exact ⟨_, rfl, NmR.nil _, HB3.out⟩
 | true =>
 obtain ⟨rfl, hml⟩ := HQY.out (by first | rfl | trivial) (by first | rfl | trivial)
 have HML := Lib.hid hml
 clear HQY HQN HQB hml
 have x0 := HX3.out.c0
 have xl := HX3.out.lt
 go_wp2
 clear x0 xl
 go_loopg [6, 8, 20] n (fun gg s6 _ s20 wr => ∃ k : Nat, k ≤ n ∧ n - k ≤ gg ∧ s20 = .int .i64 k ∧ Hid (Below w3.heap.size w3 wr) ∧ Hid (wr.ownsRow w3.heap.size 9 1 s6 (who11 (R.take k) s.data.toList).length ((who11 (R.take k) s.data.toList).map encStr)))
 case atStart => exact ⟨0, Nat.zero_le _, by omega, rfl, Below.refl _ _, World.ownsRow_nil _ _ _ _⟩
 case round =>
  obtain ⟨k, hk, hg, rfl, HW, HU⟩ := hrel
  have hlen := who_le11 R s.data.toList k
  rw [← HL.out] at hlen
  by_cases hlt : k < n
  ·
   have hltz : (k : Int) < (n : Int) := by omega
   have hkl : k < R.length := HL.out ▸ hlt
   have HRW := Lib.hid (HRC3.out.later HW.out)
   obtain ⟨g, rfl, d0, d1, d2, d3, d4⟩ := (HRC3.out.later HW.out).rw.us.at_ k hkl
   have hbv := below_alloc (Below.refl wr.heap.size wr) (.cells #[.string (tx10 R[k].1), .string R[k].2.hs, .string R[k].2.ml, .bool R[k].2.dis, .slice R[k].2.ga R[k].2.gs.length R[k].2.gc] 37)
   have HWV := Lib.hid (below_next HW.out hbv)
   have HUV := Lib.hid (HU.out.alloc (.cells #[.string (tx10 R[k].1), .string R[k].2.hs, .string R[k].2.ml, .bool R[k].2.dis, .slice R[k].2.ga R[k].2.gs.length R[k].2.gc] 37))
   have HBK : Hid (Blk5 (wr.alloc (.cells #[.string (tx10 R[k].1), .string R[k].2.hs, .string R[k].2.ml, .bool R[k].2.dis, .slice R[k].2.ga R[k].2.gs.length R[k].2.gc] 37)) wr.heap.size (.string (tx10 R[k].1)) (.string R[k].2.hs) (.string R[k].2.ml) (.bool R[k].2.dis) (.slice R[k].2.ga R[k].2.gs.length R[k].2.gc)) := heap_alloc_new wr _
   have HHK : Hid (Calls Tryz.prog 67 #[.slice R[k].2.ga R[k].2.gs.length R[k].2.gc, .string s] (wr.alloc (.cells #[.string (tx10 R[k].1), .string R[k].2.hs, .string R[k].2.ml, .bool R[k].2.dis, .slice R[k].2.ga R[k].2.gs.length R[k].2.gc] 37)) (Tells5 (hasT R[k].2.gs s.data.toList) (wr.alloc (.cells #[.string (tx10 R[k].1), .string R[k].2.hs, .string R[k].2.ml, .bool R[k].2.dis, .slice R[k].2.ga R[k].2.gs.length R[k].2.gc] 37)))) :=
    rhas11_calls _ R[k].2.gs s _ (HGL.out k hkl) (show NmR _ _ _ from ((HRC3.out.later HW.out).later hbv).2 R[k] (List.getElem_mem hkl))
   have HST : Hid (who11 (R.take (k + 1)) s.data.toList = who11 (R.take k) s.data.toList ++ if hasT R[k].2.gs s.data.toList then [R[k].1] else []) := who_step11 R s.data.toList hkl
   have HEN : Hid (encStr R[k].1 = .string (tx10 R[k].1)) := rfl
   clear hbv HRW
   generalize hasT R[k].2.gs s.data.toList = bk at *
   generalize R[k].2.hs = sh at *
   generalize R[k].2.ml = sm at *
   generalize R[k].2.dis = sd at *
   generalize R[k].2.ga = sa at *
   generalize R[k].2.gs.length = sn at *
   generalize R[k].2.gc = sc at *
   generalize R[k].1 = rk at *
   generalize tx10 rk = nm at *
   go_wp2_with fail
   generalize wr.alloc (.cells #[.string nm, .string sh, .string sm, .bool sd, .slice sa sn sc] 37) = w4 at *
   with_reducible refine HHK.out.mono ?_
   rintro e w5 ⟨rfl, hb⟩
   have HW5 := Lib.hid (below_next HWV.out hb)
   have HU5 : Hid (w5.ownsRow w3.heap.size 9 1 u6 (who11 (R.take k) s.data.toList).length ((who11 (R.take k) s.data.toList).map encStr)) := ownsRow_below11 HUV.out hb
   have hk5 := blk_later11 HBK.out hb
   have q0 : _ = some (.string nm : Value) := hk5.at_ 0
   have hl5 := hk5.lt
   clear hb HHK HBK hk5 HUV HWV HU HW d0 d1 d2 d3 d4
   cases bk with
   | false =>
    have R2 : Hid (w5.ownsRow w3.heap.size 9 1 u6 (who11 (R.take (k + 1)) s.data.toList).length ((who11 (R.take (k + 1)) s.data.toList).map encStr)) := by
     show World.ownsRow _ _ _ _ _ _ _
     rw [HST.out]; simpa using HU5.out
    go_wp2
    go_roundg (n - (k + 1))
    case measure => omega
    case rel => exact ⟨k + 1, by omega, by omega, by go_num, HW5, R2⟩
   | true =>
    go_wp2_with (first
     | (at_builtin; refine wpList_append_own _ rfl _ _ 28 rfl w3.heap.size 9 i0 (.string ⟨#[]⟩) 1 16 Tryz.underlying28 hi hz0 hz1 hz2 rfl (by decide) _ _ _ rfl (HU5.out.alloc _) ⟨w5.heap.size, 0, none⟩ 1 1 [.string nm] rfl rfl (fun j u hu => by rw [Addr.add_lit, Nat.zero_add, World.cell?_alloc_at _ _ _ _ (by simp)]; simpa using hu) (by simp [Value.oneCell']) (by unfold maxLen; omega) (by omega) (by have := HW5.out.size; simp; omega) ?_; intro v2 w6 hown' hgrow _; have HO6 := Lib.hid hown'; have HG6 := Lib.hid hgrow; clear hown' hgrow)
     | fail)
    have ho := HO6.out
    rw [← HEN.out] at ho
    have R1 := Lib.hid ((below_next HW5.out (below_alloc (Below.refl _ _) _)).grown HG6.out (by have := HW5.out.size; simp; omega) (fun j hj => (HU5.out.lt j hj).1))
    have R2 : Hid (w6.ownsRow w3.heap.size 9 1 v2 (who11 (R.take (k + 1)) s.data.toList).length ((who11 (R.take (k + 1)) s.data.toList).map encStr)) := by
     show World.ownsRow _ _ _ _ _ _ _
     rw [HST.out]
     simpa using ho
    clear ho
    go_roundg (n - (k + 1))
    case measure => omega
    case rel => exact ⟨k + 1, by omega, by omega, by go_num, R1, R2⟩
  ·
   have hltz : ¬ (k : Int) < (n : Int) := by omega
   obtain rfl : k = n := by omega
   have hu := HU.out
   rw [List.take_of_length_le (by have := HL.out; omega), HML.out] at hu
   have HT : Hid (NmR wr u6 ml) := NmR.of hu
   have HBE := Lib.hid (below_next HB3.out HW.out)
   obtain ⟨A9, c9, rfl⟩ := HT.out.shape
   clear hu HU
   go_wp2
   go_ret2
   exact ⟨_, rfl, HT.out, HBE.out⟩
end Go.Proofs.YthlgmkfofebbfaaGreatDoor


namespace Go.Proofs.YthlgmkfofebbfaaGreatDoor
open Go.RowKit Go.Maps
set_option linter.unusedVariables false

section
variable {A : Acc11} {L : Row7} {S : Grs10} {k : Nat} {R : RowV W11}
def lk11 (A : Acc11) (L : Row7) (S : Grs10) (n : List UInt8) : List UInt8 × U11 := if deE11 A n = 0 then (n, ⟨hasA A n, getE L n, disA A n, of10 S n⟩) else ([], ⟨[], [], false, []⟩)
theorem look_form11 {n : ByteArray} {w W : World} {v : Value} (h : Look11 A L S n w W v) : ∃ t x, v = uval11 t x ∧ NmR W (.slice x.ga x.gs.length x.gc) x.gs ∧ (t.data.toList, x.u) = lk11 A L S n.data.toList := by
 by_cases h0 : deE11 A n.data.toList = 0
 ·
  obtain ⟨ga, gc, e, hr⟩ := h.1 h0
  refine ⟨n, ⟨tx10 (hasA A n.data.toList), tx10 (getE L n.data.toList), disA A n.data.toList, ga, of10 S n.data.toList, gc⟩, e, NmR.of hr, ?_⟩
  unfold lk11
  rw [if_pos h0]
  unfold W11.u
  simp only [tx10_list]
 ·
  refine ⟨⟨#[]⟩, noW11, h.2 h0, NmR.nil _, ?_⟩
  unfold lk11
  rw [if_neg h0]
  rfl
theorem user_form11 (hp : plainR R = tell11 A L S) (hrA : RiseV A) (hr : RiseV R) {s t : ByteArray} {x : W11} {W : World} {v : Value} (hR : Rc11 0 R W v)
  (h0 : deF11 (name5 s.data.toList) (hasV R s.data.toList) = 0 → t = s ∧ getV R s.data.toList = some x) (h1 : deF11 (name5 s.data.toList) (hasV R s.data.toList) ≠ 0 → t = ⟨#[]⟩ ∧ x = noW11) :
  NmR W (.slice x.ga x.gs.length x.gc) x.gs ∧ (t.data.toList, x.u) = lk11 A L S s.data.toList ∧ deF11 (name5 s.data.toList) (hasV R s.data.toList) = deE11 A s.data.toList := by
 have e : deF11 (name5 s.data.toList) (hasV R s.data.toList) = deE11 A s.data.toList := by
  unfold deE11
  rw [← plainR_has, hp, tell_has]
 rw [e] at h0 h1
 by_cases hz : deE11 A s.data.toList = 0
 ·
  obtain ⟨rfl, hx⟩ := h0 hz
  refine ⟨hR.2.get hr hx, ?_, e⟩
  have h2 : getV (plainR R) t.data.toList = some x.u := by rw [plainR_get, hx]; rfl
  rw [hp, tell_get hrA] at h2
  cases ha : getV A t.data.toList with
  | none => rw [ha] at h2; cases h2
  | some a =>
   rw [ha] at h2
   injection h2 with h2
   unfold lk11
   rw [if_pos hz, ← h2]
   unfold hasA disA tell1
   rw [ha]
 ·
  obtain ⟨rfl, rfl⟩ := h1 hz
  refine ⟨NmR.nil _, ?_, e⟩
  unfold lk11
  rw [if_neg hz]
  rfl
theorem lk_short11 (hg : Good11 A L S k) (n : List UInt8) : Short11 [lk11 A L S n] := by
 unfold lk11
 by_cases hz : deE11 A n = 0
 ·
  rw [if_pos hz]
  have hh : hasV A n = true := by
   cases h : hasV A n with
   | true => rfl
   | false =>
    unfold deE11 deF11 at hz
    rw [h] at hz
    cases hn : name5 n <;> rw [hn] at hz <;> simp at hz
  obtain ⟨a, ha⟩ := get_someA hh
  have hm : (n, tell1 L S n a) ∈ tell11 A L S := List.mem_map.2 ⟨(n, a), (getV_some hg.rise).1 ha, rfl⟩
  have hs := short11 hg
  have e : (⟨hasA A n, getE L n, disA A n, of10 S n⟩ : U11) = tell1 L S n a := by
   unfold hasA disA tell1
   rw [ha]
  rw [e]
  exact ⟨by simp, fun p hp => by rw [List.mem_singleton.1 hp]; exact hs.nm _ hm, fun p hp => by rw [List.mem_singleton.1 hp]; exact hs.hs _ hm, fun p hp => by rw [List.mem_singleton.1 hp]; exact hs.ml _ hm, fun p hp => by rw [List.mem_singleton.1 hp]; exact hs.gs _ hm⟩
 ·
  rw [if_neg hz]
  exact ⟨by simp, fun p hp => by rw [List.mem_singleton.1 hp]; simp, fun p hp => by rw [List.mem_singleton.1 hp]; simp, fun p hp => by rw [List.mem_singleton.1 hp]; simp, fun p hp => by rw [List.mem_singleton.1 hp]; simp⟩
end
theorem rc11_one (w : World) (t : ByteArray) (x : W11) (hg : NmR w (.slice x.ga x.gs.length x.gc) x.gs) : Rc11 0 [(t.data.toList, x)] (w.alloc (.cells #[.string t, .string x.hs, .string x.ml, .bool x.dis, .slice x.ga x.gs.length x.gc] 37)) (.slice (some ⟨w.heap.size, 0, none⟩) 1 1) := by
 refine ⟨⟨rfl, .inr ⟨w.heap.size, 1, _, rfl, Nat.zero_le _, (MapKept.heap_alloc w _).1, Nat.le_refl _, by decide, rfl, ?_⟩⟩, fun p hp => ?_⟩
 ·
  show _ = cu11 (t.data.toList, x) ++ []
  unfold cu11
  rw [tx10_back]
  rfl
 ·
  rw [List.mem_singleton.1 hp]
  exact hg.later (below_alloc (Below.refl _ _) _)
theorem same_one11 (t : ByteArray) (x y : W11) (W : World) (e : x.u = y.u) (hs : Short11 [(t.data.toList, x.u)]) (h1 : NmR W (.slice x.ga x.gs.length x.gc) x.gs) (h2 : NmR W (.slice y.ga y.gs.length y.gc) y.gs) :
  Calls Tryz.prog 16 #[.slice (some ⟨W.heap.size, 0, none⟩) 1 1, .slice (some ⟨W.heap.size + 1, 0, none⟩) 1 1] ((W.alloc (.cells #[.string t, .string x.hs, .string x.ml, .bool x.dis, .slice x.ga x.gs.length x.gc] 37)).alloc (.cells #[.string t, .string y.hs, .string y.ml, .bool y.dis, .slice y.ga y.gs.length y.gc] 37))
   (Tells5 true ((W.alloc (.cells #[.string t, .string x.hs, .string x.ml, .bool x.dis, .slice x.ga x.gs.length x.gc] 37)).alloc (.cells #[.string t, .string y.hs, .string y.ml, .bool y.dis, .slice y.ga y.gs.length y.gc] 37))) := by
 have r1 := (rc11_one W t x h1).later (below_alloc (Below.refl _ _) (.cells #[.string t, .string y.hs, .string y.ml, .bool y.dis, .slice y.ga y.gs.length y.gc] 37))
 have r2 := rc11_one (W.alloc (.cells #[.string t, .string x.hs, .string x.ml, .bool x.dis, .slice x.ga x.gs.length x.gc] 37)) t y (h2.later (below_alloc (Below.refl _ _) _))
 rw [show (W.alloc (.cells #[.string t, .string x.hs, .string x.ml, .bool x.dis, .slice x.ga x.gs.length x.gc] 37)).heap.size = W.heap.size + 1 by simp] at r2
 exact same11_calls _ _ _ _ [(t.data.toList, x.u)] _ r1 r2 rfl (by show [(t.data.toList, y.u)] = _; rw [e]) hs
end Go.Proofs.YthlgmkfofebbfaaGreatDoor


namespace Go.Proofs.YthlgmkfofebbfaaGreatDoor
open Go.RowKit Go.Maps
set_option linter.unusedVariables false

theorem loop11_next {w0 W w5 : World} {D P M G Wb k : Nat} {A : Acc11} {L : Row7} {S : Grs10} {R : RowV W11} {x1 x2 : Value} {A1 A2 : Option Addr} {C1 C2 : Nat} (hx : Bx11 W Wb x1 x2) (h0 : w0.heap.size ≤ Wb) (hk : Keeps11 W w5) (ho : Own11 w0 w5 D P M G A L S) (hg : Good11 A L S k) (hr : Rc11 0 R w5 (.slice A1 R.length C1)) (hn : NmR w5 (.slice A2 (names10 S).length C2) (names10 S)) (hp : plainR R = tell11 A L S) :
  Loop11 w0 D P M G Wb k ((w5.setCell ⟨Wb, 0, none⟩ (.slice A1 R.length C1)).setCell ⟨Wb, 1, none⟩ (.slice A2 (names10 S).length C2)) := by
 have hx5 := hx.keeps11 hk
 have hkg : KeepD11 w5 ((w5.setCell ⟨Wb, 0, none⟩ (.slice A1 R.length C1)).setCell ⟨Wb, 1, none⟩ (.slice A2 (names10 S).length C2)) := (hx5.keep 0 _).trans ((hx5.set0 _).keep 1 _)
 exact ⟨A, L, S, R, A1, C1, A2, C2, (ho.cell11 hx5 h0 _).cell11 (hx5.set0 _) h0 _, hg, (hx5.set0 _).set1 _, hr.keepD11 hkg, hn.keepD11 hkg, hp⟩

end Go.Proofs.YthlgmkfofebbfaaGreatDoor


namespace Go.Proofs.YthlgmkfofebbfaaGreatDoor
open Go.RowKit Go.Maps
set_option linter.unusedVariables false

theorem meL11_le {S : Grs10} {k : Nat} (hg : Good10 S k) (g : List UInt8) : (meL10 S g).length ≤ k := by
 unfold meL10
 split
 ·
  rw [names10_length]; exact mem10_le hg g
 ·
  simp

set_option maxRecDepth 100000 in
set_option maxHeartbeats 16000000 in
theorem asks11_walk (A : Option Addr) (c n : Nat) (l : List ActN) (name : ByteArray) (mail : ByteArray) (prefix_ : ByteArray) (group : ByteArray) (w : World) (hm : Len5 w) (hl : n = l.length) (hn : n ≤ 9223372036854775807) (hr : RdAN w A l) :
  Calls Tryz.prog 4 #[.slice A n c, .string name, .string mail, .string prefix_, .string group] w (Tells5 true w) := by
 have HV : Hid (∀ W, Below w.heap.size w W → Calls Tryz.prog 7 #[] W (Tells5 true W)) := fun W hb => lives11_calls W (hm.later hb)
 have HNW : Hid (∀ W, Calls Tryz.prog 9 #[] W fun e w' => ∃ D P M G, e = .returned (.pointer (some ⟨D, 0, none⟩)) ∧ Own11 W w' D P M G [] [] []) := nnew11_calls
 have HF : Hid (∀ W, Below w.heap.size w W → Calls Tryz.prog 8 #[.slice A n c] W (Tells5 (few11L l) W)) := fun W hb => few11L_calls A c n l W hl hn (hr.later hb)
 have HFW : Hid (few11L l = true → n ≤ 60 ∧ ∀ t ∈ l, t.nm.size ≤ 50 ∧ t.hs.size ≤ 50) := fun h => ⟨by rw [hl]; exact few11L_len h, few11L_size h⟩
 have HR := Lib.hid hr
 have HL := Lib.hid hl
 have H5 := Lib.hid hm
 clear hr hl hm
 generalize few11L l = fw at *
 have hzd : ∀ w : World, (zeroValue TD11).run Tryz.prog w = .ok (.agg #[.slice none 0 0, .slice none 0 0]) w := fun w => by kernel_rfl
 go_enter Tryz.func4, Tryz.ntmps4
 go_wp2_with fail
 with_reducible refine (HV.out w (Below.refl _ _)).mono ?_
 rintro e w1 ⟨rfl, hb⟩
 have HB1 := Lib.hid hb
 clear hb
 go_wp2_with fail
 with_reducible refine (HF.out w1 HB1.out).mono ?_
 rintro e w2 ⟨rfl, hb⟩
 have HB2 := Lib.hid (below_next HB1.out hb)
 clear hb HF HB1
 have BAD : Hid (∀ W, Below w.heap.size w W → Calls Tryz.prog 7 #[] W fun e w' => e = .returned (.bool true) ∧ Hid (Below w.heap.size w w')) := fun W hb => (HV.out W hb).mono fun e w' ⟨he, hb'⟩ => ⟨he, below_next hb hb'⟩
 clear HV
 cases fw with
 | false =>
  go_wp2_with fail
  with_reducible refine (BAD.out w2 HB2.out).mono ?_
  rintro e w3 ⟨rfl, HB3⟩
  go_wp2
  go_ret
  exact ⟨rfl, HB3.out⟩
 | true =>
 obtain ⟨hn60, hsz⟩ := HFW.out rfl
 have HSZ := Lib.hid hsz
 clear HFW hsz
 by_cases hp0 : name.size ≤ 50
 case neg =>
  have z : (name.size : Int) > 50 := by omega
  have z' : 50 < name.size := by omega
  have z2 : decide ((name.size : Int) > 50) = true := decide_eq_true z
  go_wp2_with fail
  with_reducible refine (BAD.out w2 HB2.out).mono ?_
  rintro e w3 ⟨rfl, HB3⟩
  go_wp2
  go_ret
  exact ⟨rfl, HB3.out⟩
 by_cases hp1 : mail.size ≤ 50
 case neg =>
  have y0 : ¬ (name.size : Int) > 50 := by omega
  have y0' : ¬ 50 < name.size := by omega
  have y02 : decide ((name.size : Int) > 50) = false := decide_eq_false y0
  have z : (mail.size : Int) > 50 := by omega
  have z' : 50 < mail.size := by omega
  have z2 : decide ((mail.size : Int) > 50) = true := decide_eq_true z
  go_wp2_with fail
  with_reducible refine (BAD.out w2 HB2.out).mono ?_
  rintro e w3 ⟨rfl, HB3⟩
  go_wp2
  go_ret
  exact ⟨rfl, HB3.out⟩
 by_cases hp2 : prefix_.size ≤ 50
 case neg =>
  have y0 : ¬ (name.size : Int) > 50 := by omega
  have y0' : ¬ 50 < name.size := by omega
  have y02 : decide ((name.size : Int) > 50) = false := decide_eq_false y0
  have y1 : ¬ (mail.size : Int) > 50 := by omega
  have y1' : ¬ 50 < mail.size := by omega
  have y12 : decide ((mail.size : Int) > 50) = false := decide_eq_false y1
  have z : (prefix_.size : Int) > 50 := by omega
  have z' : 50 < prefix_.size := by omega
  have z2 : decide ((prefix_.size : Int) > 50) = true := decide_eq_true z
  go_wp2_with fail
  with_reducible refine (BAD.out w2 HB2.out).mono ?_
  rintro e w3 ⟨rfl, HB3⟩
  go_wp2
  go_ret
  exact ⟨rfl, HB3.out⟩
 by_cases hp3 : group.size ≤ 50
 case neg =>
  have y0 : ¬ (name.size : Int) > 50 := by omega
  have y0' : ¬ 50 < name.size := by omega
  have y02 : decide ((name.size : Int) > 50) = false := decide_eq_false y0
  have y1 : ¬ (mail.size : Int) > 50 := by omega
  have y1' : ¬ 50 < mail.size := by omega
  have y12 : decide ((mail.size : Int) > 50) = false := decide_eq_false y1
  have y2 : ¬ (prefix_.size : Int) > 50 := by omega
  have y2' : ¬ 50 < prefix_.size := by omega
  have y22 : decide ((prefix_.size : Int) > 50) = false := decide_eq_false y2
  have z : (group.size : Int) > 50 := by omega
  have z' : 50 < group.size := by omega
  have z2 : decide ((group.size : Int) > 50) = true := decide_eq_true z
  go_wp2_with fail
  with_reducible refine (BAD.out w2 HB2.out).mono ?_
  rintro e w3 ⟨rfl, HB3⟩
  go_wp2
  go_ret
  exact ⟨rfl, HB3.out⟩
 have y0 : ¬ (name.size : Int) > 50 := by omega
 have y0' : ¬ 50 < name.size := by omega
 have y02 : decide ((name.size : Int) > 50) = false := decide_eq_false y0
 have y1 : ¬ (mail.size : Int) > 50 := by omega
 have y1' : ¬ 50 < mail.size := by omega
 have y12 : decide ((mail.size : Int) > 50) = false := decide_eq_false y1
 have y2 : ¬ (prefix_.size : Int) > 50 := by omega
 have y2' : ¬ 50 < prefix_.size := by omega
 have y22 : decide ((prefix_.size : Int) > 50) = false := decide_eq_false y2
 have y3 : ¬ (group.size : Int) > 50 := by omega
 have y3' : ¬ 50 < group.size := by omega
 have y32 : decide ((group.size : Int) > 50) = false := decide_eq_false y3
 clear BAD
 go_wp2_with fail
 with_reducible refine (HNW.out w2).mono ?_
 rintro e w3 ⟨D, P, M, G, rfl, ho⟩
 have HO := Lib.hid ho
 have HZB : Hid (w2.heap.size ≤ w3.heap.size) := ho.below.size
 have H52 := Lib.hid (H5.out.later HB2.out)
 clear HNW H5 ho y0 y0' y02 y1 y1' y12 y2 y2' y22 y3 y3' y32
 have HL0 : Hid (Loop11 w2 D P M G w3.heap.size 0 (w3.alloc (.cells #[.slice none 0 0, .slice none 0 0] TD11))) := by
  have hb := below_alloc (Below.refl w3.heap.size w3) (.cells #[.slice none 0 0, .slice none 0 0] TD11)
  exact ⟨[], [], [], [], none, 0, none, 0, HO.out.later hb, Good11.nil, bx11_new _ _ _, Rc11.nil _ _, NmR.nil _, rfl⟩
 clear HO
 go_wp2
 clear hzd
 generalize w3.alloc (.cells #[.slice none 0 0, .slice none 0 0] TD11) = w4 at *
 generalize w3.heap.size = Wb at *
 go_loopg [62] n (fun gg s62 wr => ∃ k : Nat, k ≤ n ∧ n - k ≤ gg ∧ s62 = .int .i64 k ∧ Hid (Loop11 w2 D P M G Wb k wr))
 case atStart => exact ⟨0, Nat.zero_le _, by omega, rfl, HL0⟩
 case round =>
  obtain ⟨k, hk, hg, rfl, HW⟩ := hrel
  by_cases hlt : k < n
  ·
   have hltz : (k : Int) < (n : Int) := by omega
   have hkl : k < l.length := HL.out ▸ hlt
   obtain ⟨A0, L0, S0, R, A1, C1, A2, C2, ho, hgd, hx, hr1, hn1, hp1⟩ := HW.out
   obtain ⟨b, off, rfl, hb, hc⟩ := (HR.out.later (below_next HB2.out ho.below)) (by intro e; rw [e] at hkl; exact absurd hkl (Nat.not_lt_zero _))
   have c0 : wr.cell? ⟨b, off + k * 4, none⟩ = some (.int .u8 (l[k].kd : Int)) := hc k hkl 0 _ rfl
   have c1 : wr.cell? ⟨b, off + k * 4 + 1, none⟩ = some (.string l[k].nm) := hc k hkl 1 _ rfl
   have c2 : wr.cell? ⟨b, off + k * 4 + 2, none⟩ = some (.string l[k].hs) := hc k hkl 2 _ rfl
   have c3 : wr.cell? ⟨b, off + k * 4 + 3, none⟩ = some (.bool l[k].is_) := hc k hkl 3 _ rfl
   have hbv := below_alloc (Below.refl wr.heap.size wr) (.cells #[.int .u8 (l[k].kd : Int), .string l[k].nm, .string l[k].hs, .bool l[k].is_] 32)
   have HDO := Lib.hid (do11_calls R _ _ l[k].kd l[k].nm l[k].hs l[k].is_ _ (ho.later hbv) hgd (by omega) H52.out (hr1.later hbv) (hn1.later hbv) hp1 (HSZ.out _ (List.getElem_mem hkl)).1 (HSZ.out _ (List.getElem_mem hkl)).2)
   have HXV := Lib.hid (hx.later hbv)
   have HAV := Lib.hid (act11_new wr l[k].kd l[k].nm l[k].hs l[k].is_)
   have x0 := HXV.out.c0
   have x1 := HXV.out.c1
   have xl := hx.lt
   have av0 := HAV.out.c0
   have av1 := HAV.out.c1
   have av2 := HAV.out.c2
   have av3 := HAV.out.c3
   clear hc hb ho hx hr1 hn1 hp1 hgd hbv HW HAV
   generalize l[k].kd = kd at *
   generalize l[k].nm = nm at *
   generalize l[k].hs = hs at *
   generalize l[k].is_ = is_ at *
   generalize List.length R = nR at *
   generalize List.length (names10 S0) = nN at *
   clear hkl
   go_wp2_with fail
   with_reducible refine HDO.out.mono ?_
   rintro e w5 ⟨A5, L5, S5, R5, v1, v2, rfl, ho5, hg5, hr5, hn5, hp5, hk5⟩
   obtain ⟨a5, c5, rfl⟩ := hr5.rw.us.shape
   obtain ⟨a6, c6, rfl⟩ := hn5.shape
   have hx5 := HXV.out.keeps11 hk5
   have r0 := hx5.c0
   have r1 := hx5.c1
   have rf0 := hx5.f0
   have rf1 := hx5.f1
   have HLN : Hid (Loop11 w2 D P M G Wb (k + 1) ((w5.setCell ⟨Wb, 0, none⟩ (.slice a5 R5.length c5)).setCell ⟨Wb, 1, none⟩ (.slice a6 (names10 S5).length c6))) := loop11_next HXV.out HZB.out hk5 ho5 hg5 hr5 hn5 hp5

   clear ho5 hg5 hr5 hn5 hp5 hk5 hx5 HXV HDO x0 x1 xl c0 c1 c2 c3 av0 av1 av2 av3
   generalize List.length R5 = nR5 at *
   generalize List.length (names10 S5) = nN5 at *
   go_wp2
   go_roundg (n - (k + 1))
   case measure => omega
   case rel => exact ⟨k + 1, by omega, by omega, by go_num, HLN⟩
  ·
   have hltz : ¬ (k : Int) < (n : Int) := by omega
   obtain rfl : k = n := by omega
   obtain ⟨A0, L0, S0, R, A1, C1, A2, C2, ho, hgd, hx, hr1, hn1, hp1⟩ := HW.out
   have h12 : R.length ≤ 12 := (rows_facts11 hgd hp1).1
   have hrR := (rows_facts11 hgd hp1).2.1
   have HRR := Lib.hid hrR
   have H12 := Lib.hid h12
   have HPL := Lib.hid hp1
   have HGD := Lib.hid hgd
   have HO0 := Lib.hid ho
   have HX0 := Lib.hid hx
   have HR0 := Lib.hid hr1
   have HN0 := Lib.hid hn1
   have HLK := Lib.hid (lookup11_calls name ho hgd.grp (by omega))
   have HNAM : Hid (names10 R = names10 A0) := by show _ = _; rw [← plainR_names, hp1, tell_names]
   clear ho hx hr1 hn1 hp1 hgd HW hrR h12
   have HLR : Hid (R.length = R.length) := rfl
   obtain ⟨nR, hnR⟩ : ∃ m, m = R.length := ⟨_, rfl⟩
   obtain ⟨nN, hnN⟩ : ∃ m, m = (names10 S0).length := ⟨_, rfl⟩
   rw [← hnR] at HX0 HR0 H12
   rw [← hnN] at HX0 HN0
   have HNR := Lib.hid hnR
   clear hnR hnN HLR
   go_wp2_with fail
   with_reducible refine HLK.out.mono ?_
   rintro e w7 ⟨v7, rfl, hlk, hb⟩
   obtain ⟨t1, y1, rfl, hnm1, hq1⟩ := look_form11 hlk
   have HO7 := Lib.hid (HO0.out.later hb)
   have HX7 := Lib.hid (HX0.out.later hb)
   have HR7 := Lib.hid (HR0.out.later hb)
   have HN7 := Lib.hid (HN0.out.later hb)

   have HNM1 := Lib.hid hnm1
   have HQ1 := Lib.hid hq1
   clear hlk hnm1 hq1 hb HLK HO0 HX0 HR0 HN0
   obtain ⟨ch, cm, cd, ca, cg, cc⟩ := y1
   unfold uval11
   dsimp only at HNM1 ⊢
   have HCL : Hid (∃ m, m = cg.length) := ⟨_, rfl⟩
   obtain ⟨cl, hcl⟩ := HCL.out
   rw [← hcl] at HNM1 ⊢
   have HC := Lib.hid hcl
   clear hcl HCL
   have hb := below_alloc (Below.refl w7.heap.size w7) (.cells #[.string t1, .string ch, .string cm, .bool cd, .slice ca cl cc] 37)
   have HU1 : Hid (Blk5 (w7.alloc (.cells #[.string t1, .string ch, .string cm, .bool cd, .slice ca cl cc] 37)) w7.heap.size (.string t1) (.string ch) (.string cm) (.bool cd) (.slice ca cl cc)) := heap_alloc_new w7 _
   have HO8 := Lib.hid (HO7.out.later hb)
   have HX8 := Lib.hid (HX7.out.later hb)
   have HR8 := Lib.hid (HR7.out.later hb)
   have HN8 := Lib.hid (HN7.out.later hb)
   have HNM8 := Lib.hid (HNM1.out.later hb)

   have x0 := HX8.out.c0
   have x1 := HX8.out.c1
   have HRL := Lib.hid (rlookup11_calls _ _ R (names10 S0) name _ (show Rc11 0 R _ (.slice A1 nR C1) from HR8.out) (show NmR _ (.slice A2 nN C2) _ from HN8.out) (by have := HNR.out; have := H12.out; omega) HRR.out (by omega))
   clear hb HO7 HX7 HR7 HN7 HNM1
   go_wp2_with fail
   generalize w7.alloc (.cells #[.string t1, .string ch, .string cm, .bool cd, .slice ca cl cc] 37) = w8 at *
   generalize w7.heap.size = b1 at *
   with_reducible refine HRL.out.mono ?_
   rintro e w9 ⟨t2, y2, rfl, hz0, hz1, hb⟩
   clear x0 x1
   have HO9 := Lib.hid (HO8.out.later hb)
   have HX9 := Lib.hid (HX8.out.later hb)
   have HR9 := Lib.hid (HR8.out.later hb)
   have HN9 := Lib.hid (HN8.out.later hb)
   have HNM9 := Lib.hid (HNM8.out.later hb)

   have HU9 := Lib.hid (blk_later11 HU1.out hb)
   obtain ⟨hnm2, hq2, her⟩ := user_form11 HPL.out HGD.out.rise HRR.out HR9.out hz0 hz1
   clear hz0 hz1 hb HRL HO8 HX8 HR8 HN8 HNM8 HU1
   rw [her]
   clear her
   generalize deE11 A0 name.data.toList = er at *
   have HNM2 := Lib.hid hnm2
   obtain ⟨rfl, HUU⟩ : t1 = t2 ∧ Hid (W11.u ⟨ch, cm, cd, ca, cg, cc⟩ = y2.u) := by
    have := HQ1.out.trans hq2.symm
    injection this with e1 e2
    exact ⟨by rw [← tx10_back t1, ← tx10_back t2, e1], e2⟩
   have HSH : Hid (Short11 [(t1.data.toList, W11.u ⟨ch, cm, cd, ca, cg, cc⟩)]) := by
    have := lk_short11 HGD.out name.data.toList
    rw [← HQ1.out] at this
    exact this
   clear hnm2 hq2 HQ1
   obtain ⟨dh, dm, dd, da, dg, dc⟩ := y2
   unfold uval11
   dsimp only at HNM2 ⊢
   obtain ⟨dl, hdl⟩ : ∃ m, m = dg.length := ⟨_, rfl⟩
   rw [← hdl] at HNM2 ⊢
   have HD := Lib.hid hdl
   clear hdl
   have hb := below_alloc (Below.refl w9.heap.size w9) (.cells #[.string t1, .string dh, .string dm, .bool dd, .slice da dl dc] 37)
   have HU2 : Hid (Blk5 (w9.alloc (.cells #[.string t1, .string dh, .string dm, .bool dd, .slice da dl dc] 37)) w9.heap.size (.string t1) (.string dh) (.string dm) (.bool dd) (.slice da dl dc)) := heap_alloc_new w9 _
   have HU10 := Lib.hid (blk_later11 HU9.out hb)
   have HO10 := Lib.hid (HO9.out.later hb)
   have HX10 := Lib.hid (HX9.out.later hb)
   have HR10 := Lib.hid (HR9.out.later hb)
   have HN10 := Lib.hid (HN9.out.later hb)
   have HNM10 := Lib.hid (HNM9.out.later hb)

   have HNM20 := Lib.hid (HNM2.out.later hb)
   have HFI := Lib.hid (nfind11_calls mail HO10.out (by omega) (H52.out.later HO10.out.below))
   clear hb HO9 HX9 HR9 HN9 HNM9 HNM2 HU9
   go_wp2_with fail
   generalize w9.alloc (.cells #[.string t1, .string dh, .string dm, .bool dd, .slice da dl dc] 37) = w10 at *
   generalize w9.heap.size = b2 at *
   with_reducible refine HFI.out.mono ?_
   rintro e w11 ⟨rfl, hb⟩
   have HO11 := Lib.hid (HO10.out.later hb)
   have HX11 := Lib.hid (HX10.out.later hb)
   have HR11 := Lib.hid (HR10.out.later hb)
   have HN11 := Lib.hid (HN10.out.later hb)
   have HNM11 := Lib.hid (HNM10.out.later hb)

   have HNM21 := Lib.hid (HNM20.out.later hb)
   have HU11 := Lib.hid (blk_later11 HU10.out hb)
   have HV11 := Lib.hid (blk_later11 HU2.out hb)
   have x0 := HX11.out.c0
   have x1 := HX11.out.c1
   have HRF := Lib.hid (rfindm11_calls _ _ R (names10 S0) mail _ HGD.out HPL.out (show Rc11 0 R _ (.slice A1 nR C1) from HR11.out) (show NmR _ (.slice A2 nN C2) _ from HN11.out) (by have := HNR.out; have := H12.out; omega) (by omega))
   clear hb HO10 HX10 HR10 HN10 HNM10 HNM20 HU10 HU2 HFI
   generalize tx7 (fiS9 L0 mail.data.toList) = fs at *
   generalize fiE9 L0 mail.data.toList = fe at *
   go_wp2_with fail
   with_reducible refine HRF.out.mono ?_
   rintro e w12 ⟨rfl, hb⟩
   clear x0 x1
   have HO12 := Lib.hid (HO11.out.later hb)
   have HX12 := Lib.hid (HX11.out.later hb)
   have HR12 := Lib.hid (HR11.out.later hb)
   have HN12 := Lib.hid (HN11.out.later hb)
   have HNM12 := Lib.hid (HNM11.out.later hb)

   have HNM22 := Lib.hid (HNM21.out.later hb)
   have HU12 := blk_later11 HU11.out hb
   have HV12 := blk_later11 HV11.out hb
   have p0 : _ = some (.string t1 : Value) := HU12.at_ 0
   have p1 : _ = some (.string ch : Value) := HU12.at_ 1
   have p2 : _ = some (.string cm : Value) := HU12.at_ 2
   have p3 : _ = some (.bool cd : Value) := HU12.at_ 3
   have p4 : _ = some (.slice ca cl cc : Value) := HU12.at_ 4
   have q0 : _ = some (.string t1 : Value) := HV12.at_ 0
   have q1 : _ = some (.string dh : Value) := HV12.at_ 1
   have q2 : _ = some (.string dm : Value) := HV12.at_ 2
   have q3 : _ = some (.bool dd : Value) := HV12.at_ 3
   have q4 : _ = some (.slice da dl dc : Value) := HV12.at_ 4
   have lt1 := HU12.lt
   have lt2 := HV12.lt
   have HSU : Hid (Calls Tryz.prog 16 #[.slice (some ⟨w12.heap.size, 0, none⟩) 1 1, .slice (some ⟨w12.heap.size + 1, 0, none⟩) 1 1] ((w12.alloc (.cells #[.string t1, .string ch, .string cm, .bool cd, .slice ca cl cc] 37)).alloc (.cells #[.string t1, .string dh, .string dm, .bool dd, .slice da dl dc] 37)) (Tells5 true ((w12.alloc (.cells #[.string t1, .string ch, .string cm, .bool cd, .slice ca cl cc] 37)).alloc (.cells #[.string t1, .string dh, .string dm, .bool dd, .slice da dl dc] 37)))) := by
    have := same_one11 t1 ⟨ch, cm, cd, ca, cg, cc⟩ ⟨dh, dm, dd, da, dg, dc⟩ w12 HUU.out HSH.out (by rw [HC.out] at HNM12; exact HNM12.out) (by rw [HD.out] at HNM22; exact HNM22.out)
    rw [HC.out, HD.out]
    exact this
   have hb2 := below_alloc (below_alloc (Below.refl w12.heap.size w12) (.cells #[.string t1, .string ch, .string cm, .bool cd, .slice ca cl cc] 37)) (.cells #[.string t1, .string dh, .string dm, .bool dd, .slice da dl dc] 37)
   have HB12 := Lib.hid hb2
   have n1 : (er != er) = false := by simp
   have n2 : (fe != fe) = false := by simp
   have n3 : (fs.toList != fs.toList) = false := by simp
   have n4 : (fs.toList == fs.toList) = true := by simp
   clear hb hb2 HU12 HV12 HO11 HX11 HR11 HN11 HNM11 HNM21 HU11 HV11 HRF HC HD HUU HSH HNM12 HNM22
   go_wp2_with fail
   with_reducible refine HSU.out.mono ?_
   rintro e w13 ⟨rfl, hb⟩
   have hb3 := below_next HB12.out hb
   clear hb HSU p0 p1 p2 p3 p4 q0 q1 q2 q3 q4 lt1 lt2
   have HO13 := Lib.hid (HO12.out.later hb3)
   have HX13 := Lib.hid (HX12.out.later hb3)
   have HR13 := Lib.hid (HR12.out.later hb3)
   have HN13 := Lib.hid (HN12.out.later hb3)

   clear hb3 HB12 HO12 HX12 HR12 HN12
   have HLI := Lib.hid (nlist11_calls prefix_ HO13.out HGD.out.rise HGD.out.few (by omega))
   go_wp2_with fail
   with_reducible refine HLI.out.mono ?_
   rintro e w14 ⟨v14, rfl, ht, hb⟩
   have HO14 := Lib.hid (HO13.out.later hb)
   have HX14 := Lib.hid (HX13.out.later hb)
   have HR14 := Lib.hid (HR13.out.later hb)
   have HN14 := Lib.hid (HN13.out.later hb)

   have HT14 := Lib.hid ht
   have HLL : Hid ((liL11 (names10 A0) prefix_.data.toList).length ≤ 9223372036854775807) := by
    have h1 : (names10 A0).length ≤ 12 := by rw [names10_length]; exact HGD.out.few
    show _ ≤ _
    unfold liL11
    split
    ·
     exact Nat.le_trans (List.length_filter_le _ _) (by omega)
    ·
     simp
   have HRLI := Lib.hid (rlist11_calls (.slice A1 nR C1) R prefix_ w14 HR14.out.rw.us (by have := HNR.out; have := H12.out; omega) (by omega))
   rw [HNAM.out] at HRLI
   unfold Lists11 at HRLI
   generalize err5 (pref5 prefix_.data.toList) 10 = le at *
   generalize liL11 (names10 A0) prefix_.data.toList = ll at *
   have x0 := HX14.out.c0
   obtain ⟨A14, C14, rfl, ht'⟩ := ht
   clear ht' hb HO13 HX13 HR13 HN13 HLI n1 n2 n3 n4
   generalize hll : List.length ll = nl at HLL ⊢
   have HLN := Lib.hid hll
   clear hll
   go_wp2_with fail
   with_reducible refine HRLI.out.mono ?_
   rintro e w15 ⟨v15, rfl, ht, hb⟩
   clear x0
   have HO15 := Lib.hid (HO14.out.later hb)
   have HX15 := Lib.hid (HX14.out.later hb)
   have HR15 := Lib.hid (HR14.out.later hb)
   have HN15 := Lib.hid (HN14.out.later hb)
   have HT15 := Lib.hid (HT14.out.later hb)

   have HS15 := Lib.hid ht
   obtain ⟨A15, C15, rfl, ht'⟩ := ht
   clear ht' hb HO14 HX14 HR14 HN14 HT14 HRLI
   have HME := Lib.hid (nmembers11_calls group HO15.out HGD.out.grp (by omega) (by omega))
   rw [HLN.out]
   go_wp2_with fail
   with_reducible refine HME.out.mono ?_
   rintro e w16 ⟨v16, rfl, hrw, hb⟩
   have HO16 := Lib.hid (HO15.out.later hb)
   have HX16 := Lib.hid (HX15.out.later hb)
   have HR16 := Lib.hid (HR15.out.later hb)
   have HN16 := Lib.hid (HN15.out.later hb)
   have HT16 := Lib.hid (HT15.out.later hb)
   have HS16 := Lib.hid (HS15.out.later hb)

   have HM16 : Hid (NmR w16 v16 (meL10 S0 group.data.toList)) := NmR.of hrw
   have HML : Hid ((meL10 S0 group.data.toList).length ≤ 1000) := Nat.le_trans (meL11_le HGD.out.grp _) (by omega)
   have HRM := Lib.hid (rmembers11_calls (.slice A1 nR C1) (.slice A2 nN C2) R group w16 HGD.out HPL.out HRR.out HR16.out HN16.out (by have := HNR.out; have := H12.out; omega) (by omega))
   obtain ⟨A16, C16, rfl⟩ := HM16.out.shape
   have x0 := HX16.out.c0
   have x1 := HX16.out.c1
   clear hrw hb HO15 HX15 HR15 HN15 HT15 HS15 HME
   generalize drE10 S0 group.data.toList = me at *
   generalize meL10 S0 group.data.toList = ml at *
   generalize hml : List.length ml = nm at HML ⊢
   have HMN := Lib.hid hml
   clear hml
   go_wp2_with fail
   with_reducible refine HRM.out.mono ?_
   rintro e w17 ⟨v17, rfl, hrw, hb⟩
   clear x0 x1
   have HO17 := Lib.hid (HO16.out.later hb)
   have HT17 := Lib.hid (HT16.out.later hb)
   have HS17 := Lib.hid (HS16.out.later hb)
   have HM17 := Lib.hid (HM16.out.later hb)

   have HN17 := Lib.hid hrw
   have HST := Lib.hid (sametexts11_calls _ _ ll w17 HT17.out HS17.out (by rw [HLN.out]; exact HLL.out))
   obtain ⟨A17, C17, rfl⟩ := hrw.shape
   rw [HLN.out] at HST
   rw [HMN.out]
   have n1 : (le == le) = true := by simp
   have n2 : (me == me) = true := by simp
   clear hrw hb HO16 HX16 HR16 HN16 HT16 HS16 HM16 HRM
   go_wp2_with fail
   with_reducible refine HST.out.mono ?_
   rintro e w18 ⟨rfl, hb⟩
   have HO18 := Lib.hid (HO17.out.later hb)
   have HSM := Lib.hid (samet10_calls _ _ ml w18 (HM17.out.later hb) (HN17.out.later hb) (by rw [HMN.out]; exact HML.out))
   rw [HMN.out] at HSM
   clear hb HST HO17 HM17 HN17
   go_wp2_with fail
   with_reducible refine HSM.out.mono ?_
   rintro e w19 ⟨rfl, hb⟩
   have HBE := Lib.hid (below_next HB2.out (HO18.out.later hb).below)
   clear hb HSM HO18
   go_wp2
   go_ret
   exact ⟨rfl, HBE.out⟩
end Go.Proofs.YthlgmkfofebbfaaGreatDoor


namespace Go.Proofs.YthlgmkfofebbfaaGreatDoor.newerAsks
open Go.ChangeShapes Go.WideShapes Go.ChangeAt Go.RowKit
set_option linter.unusedVariables false

theorem own : ownKnob Tryz.prog.godebug = none := by kernel_rfl
theorem laidOut : laidOutB Tryz.prog = true := by kernel_rfl

theorem walk (w : World) (hm : Len5 w) (a0 : Option Addr) (len0 cap0 : Nat) (l0 : List ActN) (s0 : IsActsN w a0 len0 l0) (g1 : ByteArray) (w1 : g1.size ≤ maxLen) (g2 : ByteArray) (w2 : g2.size ≤ maxLen) (g3 : ByteArray) (w3 : g3.size ≤ maxLen) (g4 : ByteArray) (w4 : g4.size ≤ maxLen) :
  Calls Tryz.prog 4 #[.slice a0 len0 cap0, .string g1, .string g2, .string g3, .string g4] w fun e w' => e = .returned (.bool true) ∧ Below w.heap.size w w' := by
 obtain ⟨h1, h2, h3, h4⟩ := s0
 exact asks11_walk a0 cap0 len0 l0 g1 g2 g3 g4 w hm h1 (by omega) h3

set_option maxRecDepth 100000 in
theorem lifted (os : Os) (started : os.Started) (H : Type) (enc : TypeId × Value → H) :
  ReturnsInHanded {} Tryz.checked os 4 .any (fun w args => (Rows.newerAsksSpec.pre enc Tryz.prog Tryz.f4 Rows.newerAsksRow.domain false w args ∧ laidMetH Tryz.prog Rows.newerAsksRow.laid w) ∧ sizedMet enc Tryz.prog Tryz.f4 (OpenSpec.ofChange Rows.newerAsksSpec) false w args)
   (Rows.newerAsksSpec.post enc Tryz.prog Tryz.f4 false true false false) := by
 refine returns_laid (C := Tryz.checked) (X := fun w _ => laidMetH Tryz.prog Rows.newerAsksRow.laid w) own started (by kernel_rfl) Tryz.func4
  (ChangeSpec.witness_shaped (enc := enc) (C := Tryz.checked) (os := os) (X := fun w _ => laidMetH Tryz.prog Rows.newerAsksRow.laid w) false (World.laidAll Tryz.prog os Rows.newerAsksRow.laid) #[.slice none 0 0, .string ⟨#[]⟩, .string ⟨#[]⟩, .string ⟨#[]⟩, .string ⟨#[]⟩] 8 (World.laidAll_os _ _ _)
   (World.shaped_of_ZipB (by kernel_rfl) (by kernel_rfl)) (by kernel_rfl) (by kernel_rfl) (by kernel_rfl)
   (by rw [MakeChecks.laidMetH_plain _ _ _ (by kernel_rfl)]; exact laidMet_laidAll _ (by kernel_rfl) (by kernel_rfl))) ?_
 intro W base args ds gs before hval0 hW hsh
 have hval : ∀ (j : Nat) t v, Tryz.f4.params[j]? = some t → args[j]? = some v → Value.okWide Tryz.prog W .any base t v := hval0
 have hW' := hW
 obtain ⟨p, q, hA0, hV, rfl, hfz, hnd⟩ := hW
 have hA : DataW.TrodAll enc Tryz.prog W 0 (fun _ => true) true Tryz.f4.params.toList args.toList ds p := hA0
 rw [Tryz.params4] at hA hval
 obtain ⟨v0, vs0, d0, ds0, p0, q0, hargs, rfl, rfl, h0, r0⟩ := trodAll_cons hA
 obtain ⟨v1, vs1, d1, ds1, p1, q1, rfl, rfl, rfl, h1, r1⟩ := trodAll_cons r0
 obtain ⟨v2, vs2, d2, ds2, p2, q2, rfl, rfl, rfl, h2, r2⟩ := trodAll_cons r1
 obtain ⟨v3, vs3, d3, ds3, p3, q3, rfl, rfl, rfl, h3, r3⟩ := trodAll_cons r2
 obtain ⟨v4, vs4, d4, ds4, p4, q4, rfl, rfl, rfl, h4, r4⟩ := trodAll_cons r3
 obtain ⟨rfl, rfl, rfl⟩ := trodAll_nil r4
 obtain rfl : args = #[v0, v1, v2, v3, v4] := by cases args; simp_all
 obtain ⟨rfl, rfl⟩ := trodVars_none hV
 obtain ⟨a0, len0, cap0, rfl⟩ := okWide_slice Tryz.underlying22 (hval 0 22 v0 rfl rfl)
 have lt0 : ∀ x ∈ p0, x.block < W.heap.size := by obtain ⟨m, hm⟩ := h0; exact DataW.trod_lt m _ _ _ hm
 obtain ⟨l0, s0⟩ := actns_of h0
 obtain ⟨g1, rfl, rfl, rfl, w1⟩ := Go.ChangeMaps.open_string Tryz.underlying9 (hval 1 9 v1 rfl rfl) h1
 obtain ⟨g2, rfl, rfl, rfl, w2⟩ := Go.ChangeMaps.open_string Tryz.underlying9 (hval 2 9 v2 rfl rfl) h2
 obtain ⟨g3, rfl, rfl, rfl, w3⟩ := Go.ChangeMaps.open_string Tryz.underlying9 (hval 3 9 v3 rfl rfl) h3
 obtain ⟨g4, rfl, rfl, rfl, w4⟩ := Go.ChangeMaps.open_string Tryz.underlying9 (hval 4 9 v4 rfl rfl) h4
 clear hA0 hval0
 refine (walk W (len5_of hsh) a0 len0 cap0 l0 s0 g1 w1 g2 w2 g3 w3 g4 w4).mono fun e W' ⟨he, bel⟩ => ?_
 subst he
 exact ⟨_, rfl, _, _, _, [], _, [], hW', trodAll_mk1 (shut_bool Tryz.underlying4 _), (trodAll_cons_mk (Below.trod laidOut (by kernel_rfl) (of_decide_eq_true (by kernel_rfl)) h0 bel lt0) (trodAll_cons_mk (Go.ChangeMaps.shut_string Tryz.underlying9 w1) (trodAll_cons_mk (Go.ChangeMaps.shut_string Tryz.underlying9 w2) (trodAll_cons_mk (Go.ChangeMaps.shut_string Tryz.underlying9 w3) (trodAll_cons_mk (Go.ChangeMaps.shut_string Tryz.underlying9 w4) trodAll_mk0))))), rfl, bel.frame _, fun h => by cases h⟩

theorem row_holds : Rows.NewerAsksSaid :=
 OpenClaim.holds_of_wide 4 Tryz.f4 rfl rfl rfl rfl rfl rfl rfl ⟨rfl, rfl, rfl, rfl, rfl⟩ rfl rfl rfl rfl rfl (by kernel_rfl) Tryz.func4 (by kernel_rfl)
  (of_decide_eq_true (by kernel_rfl)) (by unfold Func.isWrapper; first | (rw [if_pos (by decide +kernel)]; kernel_rfl) | (rw [if_neg (by decide +kernel)]; exact ⟨rfl, rfl⟩))
  (fun os started H enc _ => lifted os started H enc)

theorem proved : Rows.NewerAsksCardSaid :=
 Claim7.holds_tied_plain_at .later [] Rows.newerAsksCard.laidKinds true Rows.newerAsksCard.stood.harness Rows.newerAsksCard.stood.looks row_holds (fun _ h => by cases h) (by kernel_rfl) (fun _ h => by cases h) newerAsks_row_tie rfl ⟨rfl, rfl⟩ (by kernel_rfl) rfl
  (fun f fn hf hfn => by
   obtain rfl : f = 4 := Option.some.inj ((show Tryz.prog.funcNamed Rows.newerAsksRow.func = some 4 by kernel_rfl).symm.trans hf) |>.symm
   obtain rfl : fn = Tryz.f4 := (Option.some.inj (Tryz.func4.symm.trans hfn)).symm
   exact ⟨by kernel_rfl, fun j t ht => by
    rw [Tryz.params4] at ht
    have hm : t ∈ [22, 9, 9, 9, 9] := by simpa using Array.mem_of_getElem? ht
    have hall : ([22, 9, 9, 9, 9].all fun u => !Tryz.prog.wantsStandIn u) = true := by kernel_rfl
    exact (show Tryz.prog.wantsStandIn t = false by simpa using List.all_eq_true.1 hall t hm)⟩)
  (by kernel_rfl)
end Go.Proofs.YthlgmkfofebbfaaGreatDoor.newerAsks
