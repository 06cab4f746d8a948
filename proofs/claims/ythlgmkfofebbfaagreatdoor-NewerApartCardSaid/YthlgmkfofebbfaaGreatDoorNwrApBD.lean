/-
  The texts that the laws of this seat share, part 4: what the code and the document's own answers tell, walked function by function.
  Conditions: each theorem's own.
-/
import Derived.Sort.OwnSorted
import Derived.Test.YthlgmkfofebbfaaGreatDoorProg
import Derived.Test.YthlgmkfofebbfaaGreatDoorRows
import Derived.ProofKit
import Derived.OpenShut
import Derived.ChangeOld
import Derived.SliceStrings
import Derived.Deep.Slices
import Derived.BigQuiet
import Derived.Laws.Cover1
import Derived.Shelf.SlIter.Nil
import Derived.Test.YthlgmkfofebbfaaGreatDoorNwrApBA
import Derived.Test.YthlgmkfofebbfaaGreatDoorNwrApBB
import Derived.Test.YthlgmkfofebbfaaGreatDoorNwrApBC
namespace Go.Proofs.YthlgmkfofebbfaaGreatDoor
open Go.RowKit Go.Maps

theorem first11_cr (a b c d : Bool) : first6 [err5 a 10, err5 b 4, err5 (!c) 9, err5 (!d) 7] = crF11 a b c d := by cases a <;> cases b <;> cases c <;> cases d <;> rfl
theorem first11_de (a c : Bool) : first6 [err5 a 10, err5 c 8] = deF11 a c := by cases a <;> cases c <;> rfl
theorem first11_sh (a b c d : Bool) : first6 [err5 a 10, err5 b 4, err5 c 8, err5 (!d) 12] = shF11 a b c d := by cases a <;> cases b <;> cases c <;> cases d <;> rfl
theorem first11_di (a c d : Bool) : first6 [err5 a 10, err5 c 8, err5 (!d) 12] = diF11 a c d := by cases a <;> cases c <;> cases d <;> rfl
theorem first11_rn (a b c d : Bool) : first6 [err5 a 10, err5 b 10, err5 c 8, err5 (!d) 9] = rnF11 a b c d := by cases a <;> cases b <;> cases c <;> cases d <;> rfl
theorem first11_ah (A : Acc11) (g n : List UInt8) : first6 [err5 (name5 g) 10, err5 (name5 n) 10, err5 (hasV A n) 8] = ahead11 A g n := by
 unfold ahead11
 cases name5 g <;> cases name5 n <;> cases hasV A n <;> rfl
theorem first11_sm (a b c : Bool) : first6 [err5 a 10, err5 b 11, err5 c 8] = if a then (if b then (if c then 0 else 8) else 11) else 10 := by cases a <;> cases b <;> cases c <;> rfl
theorem name11_size {n : ByteArray} (h : name5 n.data.toList = true) : n.size ≤ 1000 := name10_size h
theorem hash11_len {l : List UInt8} (h : hash5 l = true) : l.length ≤ 1000 := by
 unfold hash5 at h
 simp only [Bool.and_eq_true, decide_eq_true_eq] at h
 have := h.1.2
 omega
theorem hash11_size {n : ByteArray} (h : hash5 n.data.toList = true) : n.size ≤ 1000 := by
 have := hash11_len h
 rwa [size_list] at this
section
variable {w0 w : World} {D P M G : Nat} {A : Acc11} {L : Row7} {S : Grs10} {k : Nat}
theorem fit11_eq (n : Nat) : err5 (decide ((n : Int) + 1 ≤ 12)) 7 = err5 (!decide (12 ≤ n)) 7 := by
 by_cases h : 12 ≤ n
 ·
  rw [decide_eq_true h, decide_eq_false (by omega)]; rfl
 ·
  rw [decide_eq_false h, decide_eq_true (by omega)]; rfl
set_option maxRecDepth 100000 in
set_option maxHeartbeats 1000000 in
theorem create11_calls (n h : ByteArray) (ho : Own11 w0 w D P M G A L S) (hg : Good11 A L S k) (hn : n.size ≤ 9223372036854775807) (hh : h.size ≤ 9223372036854775807) :
  Calls Tryz.prog 27 #[.pointer (some ⟨D, 0, none⟩), .string n, .string h] w fun e w' => e = .returned (.int .i64 (crE11 A n.data.toList h.data.toList)) ∧ Goes11 w0 w D P M G (crA11 A n.data.toList h.data.toList) L S w' := by
 have HN : Hid (∀ W, Below w.heap.size w W → Calls Tryz.prog 52 #[.string n] W fun e w' => e = .returned (.int .i64 (err5 (name5 n.data.toList) 10)) ∧ Below W.heap.size W w') := fun W hb => Name_calls n W hn
 have HH : Hid (∀ W, Below w.heap.size w W → Calls Tryz.prog 79 #[.string h] W fun e w' => e = .returned (.int .i64 (err5 (hash5 h.data.toList) 4)) ∧ Below W.heap.size W w') := fun W hb => Hash_calls h W hh
 have HI : Hid (∀ W, Below w.heap.size w W → Calls Tryz.prog 80 #[.pointer (some ⟨D, 0, none⟩), .string n] W fun e w' => e = .returned (.int .i64 (err5 (!hasV A n.data.toList) 9)) ∧ Below W.heap.size W w') := fun W hb => isFree11_calls n (ho.later hb) hn
 have HL : Hid (∀ W, Below w.heap.size w W → Calls Tryz.prog 49 #[.pointer (some ⟨D, 0, none⟩)] W fun e w' => e = .returned (.int .i64 ((A.length : Int))) ∧ Below W.heap.size W w') := fun W hb => (nlen11_calls (ho.later hb)).mono fun e w' ⟨he, hw⟩ => ⟨he, by rw [hw]; exact Below.refl _ _⟩
 have HT : Hid (∀ W, Below w.heap.size w W → Calls Tryz.prog 72 #[.int .i64 ((A.length : Int) + 1), .int .i64 12] W fun e w' => e = .returned (.int .i64 (err5 (!decide (12 ≤ A.length)) 7)) ∧ Below W.heap.size W w') := fun W hb => (fit11_calls _ _ W).mono fun e w' ⟨he, hw⟩ => ⟨by rw [he, fit11_eq], by rw [hw]; exact Below.refl _ _⟩
 have HFS : Hid (∀ W : World, Calls Tryz.prog 51 #[.slice (some ⟨W.heap.size, 0, none⟩) 4 4] (W.alloc (.cells #[.int .i64 (err5 (name5 n.data.toList) 10), .int .i64 (err5 (hash5 h.data.toList) 4), .int .i64 (err5 (!hasV A n.data.toList) 9), .int .i64 (err5 (!decide (12 ≤ A.length)) 7)] 38)) fun e w' => e = .returned (.int .i64 (crE11 A n.data.toList h.data.toList)) ∧ w' = W.alloc (.cells #[.int .i64 (err5 (name5 n.data.toList) 10), .int .i64 (err5 (hash5 h.data.toList) 4), .int .i64 (err5 (!hasV A n.data.toList) 9), .int .i64 (err5 (!decide (12 ≤ A.length)) 7)] 38)) := fun W => by
  have := firsts11 W [err5 (name5 n.data.toList) 10, err5 (hash5 h.data.toList) 4, err5 (!hasV A n.data.toList) 9, err5 (!decide (12 ≤ A.length)) 7] 38 (by simp)
  rw [first11_cr] at this
  exact this
 have HO := Lib.hid ho
 have HP : Hid (crE11 A n.data.toList h.data.toList = 0 → ∀ W, Below w.heap.size w W → Calls Tryz.prog 81 #[.pointer (some ⟨D, 0, none⟩), .string n, .agg #[.string h, .bool false]] W fun e w' => e = .returned (.tuple #[]) ∧ Goes11 w0 w D P M G (putV A n.data.toList (h.data.toList, false)) L S w') := fun e W hb => by
  obtain ⟨h1, h2, h3, h4⟩ := crF_zero e
  exact (put11_calls n h false (ho.later hb) (by have := hg.few; omega) (name11_size h1) (hash11_size h2)).mono fun e w' ⟨he, hgo⟩ => ⟨he, hgo.ahead hb⟩
 have hm12 : (A.length : Int) ≤ 12 := by have := hg.few; omega
 have hm0 : (0 : Int) ≤ (A.length : Int) := by omega
 clear ho hg hn hh
 unfold crA11
 generalize putV A n.data.toList (h.data.toList, false) = A' at *
 generalize crE11 A n.data.toList h.data.toList = r at *
 generalize err5 (name5 n.data.toList) 10 = e0 at *
 generalize err5 (hash5 h.data.toList) 4 = e1 at *
 generalize err5 (!hasV A n.data.toList) 9 = e2 at *
 generalize err5 (!decide (12 ≤ A.length)) 7 = e3 at *
 generalize (A.length : Int) = m at *
 by_cases h0 : r = 0
 ·
  subst h0
  rw [if_pos rfl]
  have HP2 := Lib.hid (HP.out rfl)
  clear HP
  go_enter Tryz.func27, Tryz.ntmps27
  have HB0 : Hid (Below w.heap.size w w) := Below.refl _ _
  go_wp2_with fail
  with_reducible refine (HN.out w HB0.out).mono ?_
  rintro e u1 ⟨rfl, hb⟩
  have HB1 := Lib.hid (below_next HB0.out hb)
  clear hb
  go_wp2_with fail
  with_reducible refine (HH.out u1 HB1.out).mono ?_
  rintro e u2 ⟨rfl, hb⟩
  have HB2 := Lib.hid (below_next HB1.out hb)
  clear hb
  go_wp2_with fail
  with_reducible refine (HI.out u2 HB2.out).mono ?_
  rintro e u3 ⟨rfl, hb⟩
  have HB3 := Lib.hid (below_next HB2.out hb)
  clear hb
  go_wp2_with fail
  with_reducible refine (HL.out u3 HB3.out).mono ?_
  rintro e u4 ⟨rfl, hb⟩
  have HB4 := Lib.hid (below_next HB3.out hb)
  clear hb
  go_wp2_with fail
  with_reducible refine (HT.out u4 HB4.out).mono ?_
  rintro e u5 ⟨rfl, hb⟩
  have HB5 := Lib.hid (below_next HB4.out hb)
  clear hb
  go_wp2_with fail
  with_reducible refine (HFS.out _).mono ?_
  rintro e ub ⟨rfl, hub⟩
  have HB : Hid (Below w.heap.size w ub) := by
   show Below _ _ _
   rw [hub]; exact below_alloc HB5.out _
  clear hub HFS HB0 HB1 HB2 HB3 HB4 HB5 HN HH HI HL HT
  go_wp2_with fail
  with_reducible refine (HP2.out _ HB.out).mono ?_
  rintro e w5 ⟨rfl, hg⟩
  have HF := Lib.hid hg
  clear hg HP2 HB
  go_wp2
  go_ret
  exact ⟨rfl, HF.out⟩
 ·
  rw [if_neg h0]
  clear HP
  have q1 : (r == 0) = false := by simpa using h0
  have q2 : ¬ r = 0 := h0
  go_enter Tryz.func27, Tryz.ntmps27
  have HB0 : Hid (Below w.heap.size w w) := Below.refl _ _
  go_wp2_with fail
  with_reducible refine (HN.out w HB0.out).mono ?_
  rintro e u1 ⟨rfl, hb⟩
  have HB1 := Lib.hid (below_next HB0.out hb)
  clear hb
  go_wp2_with fail
  with_reducible refine (HH.out u1 HB1.out).mono ?_
  rintro e u2 ⟨rfl, hb⟩
  have HB2 := Lib.hid (below_next HB1.out hb)
  clear hb
  go_wp2_with fail
  with_reducible refine (HI.out u2 HB2.out).mono ?_
  rintro e u3 ⟨rfl, hb⟩
  have HB3 := Lib.hid (below_next HB2.out hb)
  clear hb
  go_wp2_with fail
  with_reducible refine (HL.out u3 HB3.out).mono ?_
  rintro e u4 ⟨rfl, hb⟩
  have HB4 := Lib.hid (below_next HB3.out hb)
  clear hb
  go_wp2_with fail
  with_reducible refine (HT.out u4 HB4.out).mono ?_
  rintro e u5 ⟨rfl, hb⟩
  have HB5 := Lib.hid (below_next HB4.out hb)
  clear hb
  go_wp2_with fail
  with_reducible refine (HFS.out _).mono ?_
  rintro e ub ⟨rfl, hub⟩
  have HB : Hid (Below w.heap.size w ub) := by
   show Below _ _ _
   rw [hub]; exact below_alloc HB5.out _
  clear hub HFS HB0 HB1 HB2 HB3 HB4 HB5 HN HH HI HL HT
  go_wp2
  go_ret
  exact ⟨rfl, HO.out.still HB.out⟩
set_option maxRecDepth 100000 in
set_option maxHeartbeats 1000000 in
theorem setHash11_calls (n h : ByteArray) (ho : Own11 w0 w D P M G A L S) (hg : Good11 A L S k) (hn : n.size ≤ 9223372036854775807) (hh : h.size ≤ 9223372036854775807) :
  Calls Tryz.prog 35 #[.pointer (some ⟨D, 0, none⟩), .string n, .string h] w fun e w' => e = .returned (.int .i64 (shE11 A n.data.toList h.data.toList)) ∧ Goes11 w0 w D P M G (shA11 A n.data.toList h.data.toList) L S w' := by
 have HN : Hid (∀ W, Below w.heap.size w W → Calls Tryz.prog 52 #[.string n] W fun e w' => e = .returned (.int .i64 (err5 (name5 n.data.toList) 10)) ∧ Below W.heap.size W w') := fun W hb => Name_calls n W hn
 have HH : Hid (∀ W, Below w.heap.size w W → Calls Tryz.prog 79 #[.string h] W fun e w' => e = .returned (.int .i64 (err5 (hash5 h.data.toList) 4)) ∧ Below W.heap.size W w') := fun W hb => Hash_calls h W hh
 have HI : Hid (∀ W, Below w.heap.size w W → Calls Tryz.prog 53 #[.pointer (some ⟨D, 0, none⟩), .string n] W fun e w' => e = .returned (.int .i64 (err5 (hasV A n.data.toList) 8)) ∧ Below W.heap.size W w') := fun W hb => isThere11_calls n (ho.later hb) hn
 have HL : Hid (∀ W, Below w.heap.size w W → Calls Tryz.prog 91 #[.pointer (some ⟨D, 0, none⟩), .string n] W fun e w' => e = .returned (.int .i64 (err5 (!disA A n.data.toList) 12)) ∧ Below W.heap.size W w') := fun W hb => isOpen11_calls n (ho.later hb) hn
 have HFS : Hid (∀ W : World, Calls Tryz.prog 51 #[.slice (some ⟨W.heap.size, 0, none⟩) 4 4] (W.alloc (.cells #[.int .i64 (err5 (name5 n.data.toList) 10), .int .i64 (err5 (hash5 h.data.toList) 4), .int .i64 (err5 (hasV A n.data.toList) 8), .int .i64 (err5 (!disA A n.data.toList) 12)] 38)) fun e w' => e = .returned (.int .i64 (shE11 A n.data.toList h.data.toList)) ∧ w' = W.alloc (.cells #[.int .i64 (err5 (name5 n.data.toList) 10), .int .i64 (err5 (hash5 h.data.toList) 4), .int .i64 (err5 (hasV A n.data.toList) 8), .int .i64 (err5 (!disA A n.data.toList) 12)] 38)) := fun W => by
  have := firsts11 W [err5 (name5 n.data.toList) 10, err5 (hash5 h.data.toList) 4, err5 (hasV A n.data.toList) 8, err5 (!disA A n.data.toList) 12] 38 (by simp)
  rw [first11_sh] at this
  exact this
 have HO := Lib.hid ho
 have HP : Hid (shE11 A n.data.toList h.data.toList = 0 → ∀ W, Below w.heap.size w W → Calls Tryz.prog 81 #[.pointer (some ⟨D, 0, none⟩), .string n, .agg #[.string h, .bool (disA A n.data.toList)]] W fun e w' => e = .returned (.tuple #[]) ∧ Goes11 w0 w D P M G (putV A n.data.toList (h.data.toList, disA A n.data.toList)) L S w') := fun e W hb => by
  obtain ⟨h1, h2, h3, h4⟩ := shF_zero e
  exact (put11_calls n h _ (ho.later hb) (by have := hg.few; omega) (name11_size h1) (hash11_size h2)).mono fun e w' ⟨he, hgo⟩ => ⟨he, hgo.ahead hb⟩
 have HK : Hid (∀ W, Below w.heap.size w W → (Instr.lookup 64 (.map (some P)) (.string n) false).run Tryz.prog W = .ok (.agg #[.string (tx10 (hasA A n.data.toList)), .bool (disA A n.data.toList)]) W) := fun W hb => (ho.later hb).look1 n hn
 have hz := zeroa11
 clear ho hg hn hh
 unfold shA11
 generalize putV A n.data.toList (h.data.toList, disA A n.data.toList) = A' at *
 generalize shE11 A n.data.toList h.data.toList = r at *
 generalize err5 (name5 n.data.toList) 10 = e0 at *
 generalize err5 (hash5 h.data.toList) 4 = e1 at *
 generalize err5 (hasV A n.data.toList) 8 = e2 at *
 generalize err5 (!disA A n.data.toList) 12 = e3 at *
 generalize disA A n.data.toList = dd at *
 generalize tx10 (hasA A n.data.toList) = ss at *
 by_cases h0 : r = 0
 ·
  subst h0
  rw [if_pos rfl]
  have HP2 := Lib.hid (HP.out rfl)
  clear HP
  go_enter Tryz.func35, Tryz.ntmps35
  have HB0 : Hid (Below w.heap.size w w) := Below.refl _ _
  go_wp2_with fail
  with_reducible refine (HN.out w HB0.out).mono ?_
  rintro e u1 ⟨rfl, hb⟩
  have HB1 := Lib.hid (below_next HB0.out hb)
  clear hb
  go_wp2_with fail
  with_reducible refine (HH.out u1 HB1.out).mono ?_
  rintro e u2 ⟨rfl, hb⟩
  have HB2 := Lib.hid (below_next HB1.out hb)
  clear hb
  go_wp2_with fail
  with_reducible refine (HI.out u2 HB2.out).mono ?_
  rintro e u3 ⟨rfl, hb⟩
  have HB3 := Lib.hid (below_next HB2.out hb)
  clear hb
  go_wp2_with fail
  with_reducible refine (HL.out u3 HB3.out).mono ?_
  rintro e u4 ⟨rfl, hb⟩
  have HB4 := Lib.hid (below_next HB3.out hb)
  clear hb
  go_wp2_with fail
  with_reducible refine (HFS.out _).mono ?_
  rintro e ub ⟨rfl, hub⟩
  have HB : Hid (Below w.heap.size w ub) := by
   show Below _ _ _
   rw [hub]; exact below_alloc HB4.out _
  clear hub HFS HB0 HB1 HB2 HB3 HB4 HN HH HI HL
  have c0 := (HO.out.later HB.out).c0
  have hk := HK.out _ HB.out
  have HBA : Hid (Below w.heap.size w (ub.alloc (.cells #[.string h, .bool dd] 97))) := below_alloc HB.out _
  clear HK
  go_wp2_with fail
  with_reducible refine (HP2.out _ HBA.out).mono ?_
  rintro e w5 ⟨rfl, hg⟩
  have HF := Lib.hid hg
  clear hg HP2 HB HBA c0 hk
  go_wp2
  go_ret
  exact ⟨rfl, HF.out⟩
 ·
  rw [if_neg h0]
  clear HP HK
  have q1 : (r == 0) = false := by simpa using h0
  have q2 : ¬ r = 0 := h0
  go_enter Tryz.func35, Tryz.ntmps35
  have HB0 : Hid (Below w.heap.size w w) := Below.refl _ _
  go_wp2_with fail
  with_reducible refine (HN.out w HB0.out).mono ?_
  rintro e u1 ⟨rfl, hb⟩
  have HB1 := Lib.hid (below_next HB0.out hb)
  clear hb
  go_wp2_with fail
  with_reducible refine (HH.out u1 HB1.out).mono ?_
  rintro e u2 ⟨rfl, hb⟩
  have HB2 := Lib.hid (below_next HB1.out hb)
  clear hb
  go_wp2_with fail
  with_reducible refine (HI.out u2 HB2.out).mono ?_
  rintro e u3 ⟨rfl, hb⟩
  have HB3 := Lib.hid (below_next HB2.out hb)
  clear hb
  go_wp2_with fail
  with_reducible refine (HL.out u3 HB3.out).mono ?_
  rintro e u4 ⟨rfl, hb⟩
  have HB4 := Lib.hid (below_next HB3.out hb)
  clear hb
  go_wp2_with fail
  with_reducible refine (HFS.out _).mono ?_
  rintro e ub ⟨rfl, hub⟩
  have HB : Hid (Below w.heap.size w ub) := by
   show Below _ _ _
   rw [hub]; exact below_alloc HB4.out _
  clear hub HFS HB0 HB1 HB2 HB3 HB4 HN HH HI HL
  go_wp2
  go_ret
  exact ⟨rfl, HO.out.still HB.out⟩
set_option maxRecDepth 100000 in
set_option maxHeartbeats 1000000 in
theorem disable11_calls (n : ByteArray) (is_ : Bool) (ho : Own11 w0 w D P M G A L S) (hg : Good11 A L S k) (hn : n.size ≤ 9223372036854775807) :
  Calls Tryz.prog 38 #[.pointer (some ⟨D, 0, none⟩), .string n, .bool is_] w fun e w' => e = .returned (.int .i64 (diE11 A n.data.toList is_)) ∧ Goes11 w0 w D P M G (diA11 A n.data.toList is_) L S w' := by
 have HN : Hid (∀ W, Below w.heap.size w W → Calls Tryz.prog 52 #[.string n] W fun e w' => e = .returned (.int .i64 (err5 (name5 n.data.toList) 10)) ∧ Below W.heap.size W w') := fun W hb => Name_calls n W hn
 have HI : Hid (∀ W, Below w.heap.size w W → Calls Tryz.prog 53 #[.pointer (some ⟨D, 0, none⟩), .string n] W fun e w' => e = .returned (.int .i64 (err5 (hasV A n.data.toList) 8)) ∧ Below W.heap.size W w') := fun W hb => isThere11_calls n (ho.later hb) hn
 have HL : Hid (∀ W, Below w.heap.size w W → Calls Tryz.prog 92 #[.pointer (some ⟨D, 0, none⟩), .string n, .bool is_] W fun e w' => e = .returned (.int .i64 (err5 (!(disA A n.data.toList == is_)) 12)) ∧ Below W.heap.size W w') := fun W hb => isNotYet11_calls n is_ (ho.later hb) hn
 have HFS : Hid (∀ W : World, Calls Tryz.prog 51 #[.slice (some ⟨W.heap.size, 0, none⟩) 3 3] (W.alloc (.cells #[.int .i64 (err5 (name5 n.data.toList) 10), .int .i64 (err5 (hasV A n.data.toList) 8), .int .i64 (err5 (!(disA A n.data.toList == is_)) 12)] 38)) fun e w' => e = .returned (.int .i64 (diE11 A n.data.toList is_)) ∧ w' = W.alloc (.cells #[.int .i64 (err5 (name5 n.data.toList) 10), .int .i64 (err5 (hasV A n.data.toList) 8), .int .i64 (err5 (!(disA A n.data.toList == is_)) 12)] 38)) := fun W => by
  have := firsts11 W [err5 (name5 n.data.toList) 10, err5 (hasV A n.data.toList) 8, err5 (!(disA A n.data.toList == is_)) 12] 38 (by simp)
  rw [first11_di] at this
  exact this
 have HO := Lib.hid ho
 have HP : Hid (diE11 A n.data.toList is_ = 0 → ∀ W, Below w.heap.size w W → Calls Tryz.prog 81 #[.pointer (some ⟨D, 0, none⟩), .string n, .agg #[.string (tx10 (hasA A n.data.toList)), .bool is_]] W fun e w' => e = .returned (.tuple #[]) ∧ Goes11 w0 w D P M G (putV A n.data.toList (hasA A n.data.toList, is_)) L S w') := fun e W hb => by
  obtain ⟨h1, h3, h4⟩ := diF_zero e
  have := put11_calls n (tx10 (hasA A n.data.toList)) is_ (ho.later hb) (by have := hg.few; omega) (name11_size h1) (by rw [tx10_size]; exact hash11_len (hasA_hash hg h3))
  rw [tx10_list] at this
  exact this.mono fun e w' ⟨he, hgo⟩ => ⟨he, hgo.ahead hb⟩
 have HK : Hid (∀ W, Below w.heap.size w W → (Instr.lookup 64 (.map (some P)) (.string n) false).run Tryz.prog W = .ok (.agg #[.string (tx10 (hasA A n.data.toList)), .bool (disA A n.data.toList)]) W) := fun W hb => (ho.later hb).look1 n hn
 have hz := zeroa11
 clear ho hg hn
 unfold diA11
 generalize putV A n.data.toList (hasA A n.data.toList, is_) = A' at *
 generalize diE11 A n.data.toList is_ = r at *
 generalize err5 (name5 n.data.toList) 10 = e0 at *
 generalize err5 (hasV A n.data.toList) 8 = e2 at *
 generalize err5 (!(disA A n.data.toList == is_)) 12 = e3 at *
 generalize disA A n.data.toList = dd at *
 generalize tx10 (hasA A n.data.toList) = ss at *
 by_cases h0 : r = 0
 ·
  subst h0
  rw [if_pos rfl]
  have HP2 := Lib.hid (HP.out rfl)
  clear HP
  go_enter Tryz.func38, Tryz.ntmps38
  have HB0 : Hid (Below w.heap.size w w) := Below.refl _ _
  go_wp2_with fail
  with_reducible refine (HN.out w HB0.out).mono ?_
  rintro e u1 ⟨rfl, hb⟩
  have HB1 := Lib.hid (below_next HB0.out hb)
  clear hb
  go_wp2_with fail
  with_reducible refine (HI.out u1 HB1.out).mono ?_
  rintro e u2 ⟨rfl, hb⟩
  have HB2 := Lib.hid (below_next HB1.out hb)
  clear hb
  go_wp2_with fail
  with_reducible refine (HL.out u2 HB2.out).mono ?_
  rintro e u3 ⟨rfl, hb⟩
  have HB3 := Lib.hid (below_next HB2.out hb)
  clear hb
  go_wp2_with fail
  with_reducible refine (HFS.out _).mono ?_
  rintro e ub ⟨rfl, hub⟩
  have HB : Hid (Below w.heap.size w ub) := by
   show Below _ _ _
   rw [hub]; exact below_alloc HB3.out _
  clear hub HFS HB0 HB1 HB2 HB3 HN HI HL
  have c0 := (HO.out.later HB.out).c0
  have hk := HK.out _ HB.out
  have HBA : Hid (Below w.heap.size w (ub.alloc (.cells #[.string ss, .bool is_] 97))) := below_alloc HB.out _
  clear HK
  go_wp2_with fail
  with_reducible refine (HP2.out _ HBA.out).mono ?_
  rintro e w5 ⟨rfl, hg⟩
  have HF := Lib.hid hg
  clear hg HP2 HB HBA c0 hk
  go_wp2
  go_ret
  exact ⟨rfl, HF.out⟩
 ·
  rw [if_neg h0]
  clear HP HK
  have q1 : (r == 0) = false := by simpa using h0
  have q2 : ¬ r = 0 := h0
  go_enter Tryz.func38, Tryz.ntmps38
  have HB0 : Hid (Below w.heap.size w w) := Below.refl _ _
  go_wp2_with fail
  with_reducible refine (HN.out w HB0.out).mono ?_
  rintro e u1 ⟨rfl, hb⟩
  have HB1 := Lib.hid (below_next HB0.out hb)
  clear hb
  go_wp2_with fail
  with_reducible refine (HI.out u1 HB1.out).mono ?_
  rintro e u2 ⟨rfl, hb⟩
  have HB2 := Lib.hid (below_next HB1.out hb)
  clear hb
  go_wp2_with fail
  with_reducible refine (HL.out u2 HB2.out).mono ?_
  rintro e u3 ⟨rfl, hb⟩
  have HB3 := Lib.hid (below_next HB2.out hb)
  clear hb
  go_wp2_with fail
  with_reducible refine (HFS.out _).mono ?_
  rintro e ub ⟨rfl, hub⟩
  have HB : Hid (Below w.heap.size w ub) := by
   show Below _ _ _
   rw [hub]; exact below_alloc HB3.out _
  clear hub HFS HB0 HB1 HB2 HB3 HN HI HL
  go_wp2
  go_ret
  exact ⟨rfl, HO.out.still HB.out⟩
def deA11 (A : Acc11) (n : List UInt8) : Acc11 := if deE11 A n = 0 then delV A n else A
def deL11 (A : Acc11) (L : Row7) (n : List UInt8) : Row7 := if deE11 A n = 0 then delE L n else L
def deS11 (A : Acc11) (S : Grs10) (n : List UInt8) : Grs10 := if deE11 A n = 0 then rmS10 S n else S
set_option maxRecDepth 100000 in
set_option maxHeartbeats 1000000 in
theorem delete11_calls (n : ByteArray) (ho : Own11 w0 w D P M G A L S) (hg : Good11 A L S k) (hn : n.size ≤ 9223372036854775807) :
  Calls Tryz.prog 26 #[.pointer (some ⟨D, 0, none⟩), .string n] w fun e w' => e = .returned (.int .i64 (deE11 A n.data.toList)) ∧ Goes11 w0 w D P M G (deA11 A n.data.toList) (deL11 A L n.data.toList) (deS11 A S n.data.toList) w' := by
 have HN : Hid (∀ W, Below w.heap.size w W → Calls Tryz.prog 52 #[.string n] W fun e w' => e = .returned (.int .i64 (err5 (name5 n.data.toList) 10)) ∧ Below W.heap.size W w') := fun W hb => Name_calls n W hn
 have HI : Hid (∀ W, Below w.heap.size w W → Calls Tryz.prog 53 #[.pointer (some ⟨D, 0, none⟩), .string n] W fun e w' => e = .returned (.int .i64 (err5 (hasV A n.data.toList) 8)) ∧ Below W.heap.size W w') := fun W hb => isThere11_calls n (ho.later hb) hn
 have HFS : Hid (∀ W : World, Calls Tryz.prog 51 #[.slice (some ⟨W.heap.size, 0, none⟩) 2 2] (W.alloc (.cells #[.int .i64 (err5 (name5 n.data.toList) 10), .int .i64 (err5 (hasV A n.data.toList) 8)] 38)) fun e w' => e = .returned (.int .i64 (deE11 A n.data.toList)) ∧ w' = W.alloc (.cells #[.int .i64 (err5 (name5 n.data.toList) 10), .int .i64 (err5 (hasV A n.data.toList) 8)] 38)) := fun W => by
  have := firsts11 W [err5 (name5 n.data.toList) 10, err5 (hasV A n.data.toList) 8] 38 (by simp)
  rw [first11_de] at this
  exact this
 have HO := Lib.hid ho
 have HDR : Hid (∀ W ty, Below w.heap.size w W → ∃ w', (Builtin.delete_ #[64, 9] ty #[.map (some P), .string n]).run Tryz.prog W = .ok (.tuple #[]) w' ∧ Goes11 w0 w D P M G (delV A n.data.toList) L S w') := fun W ty hb => by
  obtain ⟨w', h1, h2⟩ := (ho.later hb).drop n hn ty
  exact ⟨w', h1, h2.ahead hb⟩
 have HMD : Hid (∀ W A1 L1 S1, Own11 w0 W D P M G A1 L1 S1 → Calls Tryz.prog 77 #[.pointer (some ⟨M, 0, none⟩), .string n] W fun e w' => e = .returned (.bool (hasE L1 n.data.toList)) ∧ Goes11 w0 W D P M G A1 (delE L1 n.data.toList) S1 w') := fun W A1 L1 S1 h => h.mdrop n hn
 have HGR : Hid (∀ W A1 L1, Own11 w0 W D P M G A1 L1 S → Calls Tryz.prog 78 #[.pointer (some ⟨G, 0, none⟩), .string n] W fun e w' => e = .returned (.int .i64 ((of10 S n.data.toList).length : Nat)) ∧ Goes11 w0 W D P M G A1 L1 (rmS10 S n.data.toList) w') := fun W A1 L1 h => h.gremove hg.grp n hn
 clear ho hg hn
 unfold deA11 deL11 deS11
 generalize deE11 A n.data.toList = r at *
 generalize err5 (name5 n.data.toList) 10 = e0 at *
 generalize err5 (hasV A n.data.toList) 8 = e2 at *
 by_cases h0 : r = 0
 ·
  subst h0
  rw [if_pos rfl, if_pos rfl, if_pos rfl]
  generalize (of10 S n.data.toList).length = cnt at *
  generalize rmS10 S n.data.toList = S' at *
  generalize delV A n.data.toList = A' at *
  go_enter Tryz.func26, Tryz.ntmps26
  have HB0 : Hid (Below w.heap.size w w) := Below.refl _ _
  go_wp2_with fail
  with_reducible refine (HN.out w HB0.out).mono ?_
  rintro e u1 ⟨rfl, hb⟩
  have HB1 := Lib.hid (below_next HB0.out hb)
  clear hb
  go_wp2_with fail
  with_reducible refine (HI.out u1 HB1.out).mono ?_
  rintro e u2 ⟨rfl, hb⟩
  have HB2 := Lib.hid (below_next HB1.out hb)
  clear hb
  go_wp2_with fail
  with_reducible refine (HFS.out _).mono ?_
  rintro e ub ⟨rfl, hub⟩
  have HB : Hid (Below w.heap.size w ub) := by
   show Below _ _ _
   rw [hub]; exact below_alloc HB2.out _
  clear hub HFS HB0 HB1 HB2 HN HI
  have c0 := (HO.out.later HB.out).c0
  have hdr := fun ty => HDR.out ub ty HB.out
  obtain ⟨w1, hrun, hgo⟩ := hdr 0
  have HG1 := Lib.hid hgo
  have c1 := hgo.1.c1
  have HMD1 := Lib.hid (HMD.out w1 _ _ _ hgo.1)
  clear hdr hgo HDR HMD
  go_wp2_with fail
  with_reducible refine HMD1.out.mono ?_
  rintro e w2 ⟨rfl, hgo⟩
  have HG2 := Lib.hid (HG1.out.next hgo)
  have c2 := hgo.1.c2
  have HGR1 := Lib.hid (HGR.out w2 _ _ hgo.1)
  clear hgo HGR HMD1 HG1 c1 c0 hrun
  go_wp2_with fail
  with_reducible refine HGR1.out.mono ?_
  rintro e w3 ⟨rfl, hgo⟩
  have HF := Lib.hid (HG2.out.next hgo)
  clear hgo HGR1 HG2 c2
  go_wp2
  go_ret
  exact ⟨rfl, HF.out⟩
 ·
  rw [if_neg h0, if_neg h0, if_neg h0]
  clear HDR HMD HGR
  have q1 : (r == 0) = false := by simpa using h0
  have q2 : ¬ r = 0 := h0
  go_enter Tryz.func26, Tryz.ntmps26
  have HB0 : Hid (Below w.heap.size w w) := Below.refl _ _
  go_wp2_with fail
  with_reducible refine (HN.out w HB0.out).mono ?_
  rintro e u1 ⟨rfl, hb⟩
  have HB1 := Lib.hid (below_next HB0.out hb)
  clear hb
  go_wp2_with fail
  with_reducible refine (HI.out u1 HB1.out).mono ?_
  rintro e u2 ⟨rfl, hb⟩
  have HB2 := Lib.hid (below_next HB1.out hb)
  clear hb
  go_wp2_with fail
  with_reducible refine (HFS.out _).mono ?_
  rintro e ub ⟨rfl, hub⟩
  have HB : Hid (Below w.heap.size w ub) := by
   show Below _ _ _
   rw [hub]; exact below_alloc HB2.out _
  clear hub HFS HB0 HB1 HB2 HN HI
  go_wp2
  go_ret
  exact ⟨rfl, HO.out.still HB.out⟩
theorem sm11_eq (n m : List UInt8) : (name5 n = true ∧ isM11 m = true ∧ hasV A n = true → smE11 A L n m = seE9 L n m ∧ smL11 A L n m = seL9 L n m) ∧ (¬ (name5 n = true ∧ isM11 m = true ∧ hasV A n = true) → smE11 A L n m = (if name5 n then (if isM11 m then (if hasV A n then 0 else 8) else 11) else 10) ∧ smL11 A L n m = L) := by
 constructor
 ·
  rintro ⟨h1, h2, h3⟩
  have h4 : seE9 L n m = 0 ∨ seE9 L n m = 9 := by
   unfold seE9
   rw [if_pos h1]
   by_cases hm : m = []
   ·
    rw [if_pos hm]; exact .inl rfl
   ·
    have h5 : mail5 m = true := by unfold isM11 at h2; rw [decide_eq_false hm, Bool.false_or] at h2; exact h2
    rw [if_neg hm, if_pos h5]
    cases bad9 L n (fold5 m)
    ·
     exact .inl rfl
    ·
     exact .inr rfl
  have e1 : smE11 A L n m = seE9 L n m := by
   unfold smE11 smF11
   rw [h1, h2, h3]
   rcases h4 with h | h <;> rw [h] <;> rfl
  refine ⟨e1, ?_⟩
  unfold smL11
  rw [e1]
  by_cases h : seE9 L n m = 0
  ·
   rw [if_pos h]
  ·
   rw [if_neg h]; unfold seL9; rw [if_neg h]
 ·
  intro hq
  have e1 : smE11 A L n m = (if name5 n then (if isM11 m then (if hasV A n then 0 else 8) else 11) else 10) := by
   unfold smE11 smF11
   revert hq
   cases name5 n <;> cases isM11 m <;> cases hasV A n <;> simp
  refine ⟨e1, ?_⟩
  unfold smL11
  rw [e1, if_neg]
  revert hq
  cases name5 n <;> cases isM11 m <;> cases hasV A n <;> simp
set_option maxRecDepth 100000 in
set_option maxHeartbeats 1000000 in
theorem setMail11_calls (n m : ByteArray) (ho : Own11 w0 w D P M G A L S) (hl : L.length < 100) (h5 : Len5 w) (hn : n.size ≤ 9223372036854775807) (hm : m.size ≤ 9223372036854775807) :
  Calls Tryz.prog 28 #[.pointer (some ⟨D, 0, none⟩), .string n, .string m] w fun e w' => e = .returned (.int .i64 (smE11 A L n.data.toList m.data.toList)) ∧ Goes11 w0 w D P M G A (smL11 A L n.data.toList m.data.toList) S w' := by
 have HN : Hid (∀ W, Below w.heap.size w W → Calls Tryz.prog 52 #[.string n] W fun e w' => e = .returned (.int .i64 (err5 (name5 n.data.toList) 10)) ∧ Below W.heap.size W w') := fun W hb => Name_calls n W hn
 have HH : Hid (∀ W, Below w.heap.size w W → Calls Tryz.prog 82 #[.string m] W fun e w' => e = .returned (.int .i64 (err5 (isM11 m.data.toList) 11)) ∧ Below W.heap.size W w') := fun W hb => isMail11_calls m W hm (h5.later hb)
 have HI : Hid (∀ W, Below w.heap.size w W → Calls Tryz.prog 53 #[.pointer (some ⟨D, 0, none⟩), .string n] W fun e w' => e = .returned (.int .i64 (err5 (hasV A n.data.toList) 8)) ∧ Below W.heap.size W w') := fun W hb => isThere11_calls n (ho.later hb) hn
 have HFS : Hid (∀ W : World, Calls Tryz.prog 51 #[.slice (some ⟨W.heap.size, 0, none⟩) 3 3] (W.alloc (.cells #[.int .i64 (err5 (name5 n.data.toList) 10), .int .i64 (err5 (isM11 m.data.toList) 11), .int .i64 (err5 (hasV A n.data.toList) 8)] 38)) fun e w' => e = .returned (.int .i64 (if name5 n.data.toList then (if isM11 m.data.toList then (if hasV A n.data.toList then 0 else 8) else 11) else 10)) ∧ w' = W.alloc (.cells #[.int .i64 (err5 (name5 n.data.toList) 10), .int .i64 (err5 (isM11 m.data.toList) 11), .int .i64 (err5 (hasV A n.data.toList) 8)] 38)) := fun W => by
  have := firsts11 W [err5 (name5 n.data.toList) 10, err5 (isM11 m.data.toList) 11, err5 (hasV A n.data.toList) 8] 38 (by simp)
  rw [first11_sm] at this
  exact this
 have HO := Lib.hid ho
 have HP : Hid (name5 n.data.toList = true → ∀ W, Below w.heap.size w W → Calls Tryz.prog 83 #[.pointer (some ⟨D, 0, none⟩), .string n, .string m] W fun e w' => e = .returned (.int .i64 (seE9 L n.data.toList m.data.toList)) ∧ Goes11 w0 w D P M G A (seL9 L n.data.toList m.data.toList) S w') := fun h1 W hb =>
  (putMail11_calls n m (ho.later hb) hl (h5.later hb) (name11_size h1) hm).mono fun e w' ⟨he, hgo⟩ => ⟨he, hgo.ahead hb⟩
 have HX : Hid ((name5 n.data.toList = true ∧ isM11 m.data.toList = true ∧ hasV A n.data.toList = true → smE11 A L n.data.toList m.data.toList = seE9 L n.data.toList m.data.toList ∧ smL11 A L n.data.toList m.data.toList = seL9 L n.data.toList m.data.toList) ∧ (¬ (name5 n.data.toList = true ∧ isM11 m.data.toList = true ∧ hasV A n.data.toList = true) → smE11 A L n.data.toList m.data.toList = (if name5 n.data.toList then (if isM11 m.data.toList then (if hasV A n.data.toList then 0 else 8) else 11) else 10) ∧ smL11 A L n.data.toList m.data.toList = L)) := sm11_eq n.data.toList m.data.toList
 clear ho hl hn hm h5
 by_cases hq : name5 n.data.toList = true ∧ isM11 m.data.toList = true ∧ hasV A n.data.toList = true
 ·
  obtain ⟨x1, x2⟩ := HX.out.1 hq
  rw [x1, x2]
  have HP2 := Lib.hid (HP.out hq.1)
  obtain ⟨q1, q2, q3⟩ := hq
  rw [q1, q2, q3] at HFS
  rw [if_pos rfl, if_pos rfl, if_pos rfl] at HFS
  rw [q1] at HN
  rw [q2] at HH
  rw [q3] at HI
  clear HP HX x1 x2 q1 q2 q3
  generalize err5 true 10 = e0 at *
  generalize err5 true 11 = e1 at *
  generalize err5 true 8 = e2 at *
  generalize seE9 L n.data.toList m.data.toList = r at *
  generalize seL9 L n.data.toList m.data.toList = L' at *
  go_enter Tryz.func28, Tryz.ntmps28
  have HB0 : Hid (Below w.heap.size w w) := Below.refl _ _
  go_wp2_with fail
  with_reducible refine (HN.out w HB0.out).mono ?_
  rintro e u1 ⟨rfl, hb⟩
  have HB1 := Lib.hid (below_next HB0.out hb)
  clear hb
  go_wp2_with fail
  with_reducible refine (HH.out u1 HB1.out).mono ?_
  rintro e u2 ⟨rfl, hb⟩
  have HB2 := Lib.hid (below_next HB1.out hb)
  clear hb
  go_wp2_with fail
  with_reducible refine (HI.out u2 HB2.out).mono ?_
  rintro e u3 ⟨rfl, hb⟩
  have HB3 := Lib.hid (below_next HB2.out hb)
  clear hb
  go_wp2_with fail
  with_reducible refine (HFS.out _).mono ?_
  rintro e ub ⟨rfl, hub⟩
  have HB : Hid (Below w.heap.size w ub) := by
   show Below _ _ _
   rw [hub]; exact below_alloc HB3.out _
  clear hub HFS HB0 HB1 HB2 HB3 HN HH HI
  go_wp2_with fail
  with_reducible refine (HP2.out _ HB.out).mono ?_
  rintro e w5 ⟨rfl, hg⟩
  have HF := Lib.hid hg
  clear hg HP2 HB
  go_wp2
  go_ret
  exact ⟨rfl, HF.out⟩
 ·
  obtain ⟨x1, x2⟩ := HX.out.2 hq
  rw [x1, x2]
  have h0 : ¬ (if name5 n.data.toList then (if isM11 m.data.toList then (if hasV A n.data.toList then (0 : Int) else 8) else 11) else 10) = 0 := by
   revert hq
   cases name5 n.data.toList <;> cases isM11 m.data.toList <;> cases hasV A n.data.toList <;> simp
  clear HP HX x1 x2 hq
  generalize (if name5 n.data.toList then (if isM11 m.data.toList then (if hasV A n.data.toList then (0 : Int) else 8) else 11) else 10) = r at *
  generalize err5 (name5 n.data.toList) 10 = e0 at *
  generalize err5 (isM11 m.data.toList) 11 = e1 at *
  generalize err5 (hasV A n.data.toList) 8 = e2 at *
  have q1 : (r == 0) = false := by simpa using h0
  have q2 : ¬ r = 0 := h0
  have q3 : (r != 0) = true := by simpa using h0
  go_enter Tryz.func28, Tryz.ntmps28
  have HB0 : Hid (Below w.heap.size w w) := Below.refl _ _
  go_wp2_with fail
  with_reducible refine (HN.out w HB0.out).mono ?_
  rintro e u1 ⟨rfl, hb⟩
  have HB1 := Lib.hid (below_next HB0.out hb)
  clear hb
  go_wp2_with fail
  with_reducible refine (HH.out u1 HB1.out).mono ?_
  rintro e u2 ⟨rfl, hb⟩
  have HB2 := Lib.hid (below_next HB1.out hb)
  clear hb
  go_wp2_with fail
  with_reducible refine (HI.out u2 HB2.out).mono ?_
  rintro e u3 ⟨rfl, hb⟩
  have HB3 := Lib.hid (below_next HB2.out hb)
  clear hb
  go_wp2_with fail
  with_reducible refine (HFS.out _).mono ?_
  rintro e ub ⟨rfl, hub⟩
  have HB : Hid (Below w.heap.size w ub) := by
   show Below _ _ _
   rw [hub]; exact below_alloc HB3.out _
  clear hub HFS HB0 HB1 HB2 HB3 HN HH HI
  go_wp2
  go_ret
  exact ⟨rfl, HO.out.still HB.out⟩
set_option maxRecDepth 100000 in
set_option maxHeartbeats 1000000 in
theorem join11_calls (g n : ByteArray) (ho : Own11 w0 w D P M G A L S) (hg : Good11 A L S k) (h9 : k ≤ 900) (hz : g.size ≤ 9223372036854775807) (hn : n.size ≤ 9223372036854775807) :
  Calls Tryz.prog 45 #[.pointer (some ⟨D, 0, none⟩), .string g, .string n] w fun e w' => e = .returned (.int .i64 (joE11 A S g.data.toList n.data.toList)) ∧ Goes11 w0 w D P M G A L (joS11 A S g.data.toList n.data.toList) w' := by
 have HN : Hid (∀ W, Below w.heap.size w W → Calls Tryz.prog 52 #[.string g] W fun e w' => e = .returned (.int .i64 (err5 (name5 g.data.toList) 10)) ∧ Below W.heap.size W w') := fun W hb => Name_calls g W hz
 have HH : Hid (∀ W, Below w.heap.size w W → Calls Tryz.prog 52 #[.string n] W fun e w' => e = .returned (.int .i64 (err5 (name5 n.data.toList) 10)) ∧ Below W.heap.size W w') := fun W hb => Name_calls n W hn
 have HI : Hid (∀ W, Below w.heap.size w W → Calls Tryz.prog 53 #[.pointer (some ⟨D, 0, none⟩), .string n] W fun e w' => e = .returned (.int .i64 (err5 (hasV A n.data.toList) 8)) ∧ Below W.heap.size W w') := fun W hb => isThere11_calls n (ho.later hb) hn
 have HFS : Hid (∀ W : World, Calls Tryz.prog 51 #[.slice (some ⟨W.heap.size, 0, none⟩) 3 3] (W.alloc (.cells #[.int .i64 (err5 (name5 g.data.toList) 10), .int .i64 (err5 (name5 n.data.toList) 10), .int .i64 (err5 (hasV A n.data.toList) 8)] 38)) fun e w' => e = .returned (.int .i64 (ahead11 A g.data.toList n.data.toList)) ∧ w' = W.alloc (.cells #[.int .i64 (err5 (name5 g.data.toList) 10), .int .i64 (err5 (name5 n.data.toList) 10), .int .i64 (err5 (hasV A n.data.toList) 8)] 38)) := fun W => by
  have := firsts11 W [err5 (name5 g.data.toList) 10, err5 (name5 n.data.toList) 10, err5 (hasV A n.data.toList) 8] 38 (by simp)
  rw [first11_ah] at this
  exact this
 have HO := Lib.hid ho
 have HP : Hid (∀ W, Below w.heap.size w W → Calls Tryz.prog 101 #[.pointer (some ⟨G, 0, none⟩), .string g, .string n] W fun e w' => e = .returned (.int .i64 (joE10 S g.data.toList n.data.toList)) ∧ Goes11 w0 w D P M G A L (joS10 S g.data.toList n.data.toList) w') := fun W hb =>
  ((ho.later hb).gjoin hg.grp h9 g n hz hn).mono fun e w' ⟨he, hgo⟩ => ⟨he, hgo.ahead hb⟩
 clear ho hg h9 hz hn
 unfold joE11 joS11
 generalize joE10 S g.data.toList n.data.toList = x at *
 generalize joS10 S g.data.toList n.data.toList = S' at *
 generalize ahead11 A g.data.toList n.data.toList = r at *
 generalize err5 (name5 g.data.toList) 10 = e0 at *
 generalize err5 (name5 n.data.toList) 10 = e1 at *
 generalize err5 (hasV A n.data.toList) 8 = e2 at *
 by_cases h0 : r = 0
 ·
  subst h0
  rw [if_pos rfl, if_pos rfl]
  go_enter Tryz.func45, Tryz.ntmps45
  have HB0 : Hid (Below w.heap.size w w) := Below.refl _ _
  go_wp2_with fail
  with_reducible refine (HN.out w HB0.out).mono ?_
  rintro e u1 ⟨rfl, hb⟩
  have HB1 := Lib.hid (below_next HB0.out hb)
  clear hb
  go_wp2_with fail
  with_reducible refine (HH.out u1 HB1.out).mono ?_
  rintro e u2 ⟨rfl, hb⟩
  have HB2 := Lib.hid (below_next HB1.out hb)
  clear hb
  go_wp2_with fail
  with_reducible refine (HI.out u2 HB2.out).mono ?_
  rintro e u3 ⟨rfl, hb⟩
  have HB3 := Lib.hid (below_next HB2.out hb)
  clear hb
  go_wp2_with fail
  with_reducible refine (HFS.out _).mono ?_
  rintro e ub ⟨rfl, hub⟩
  have HB : Hid (Below w.heap.size w ub) := by
   show Below _ _ _
   rw [hub]; exact below_alloc HB3.out _
  clear hub HFS HB0 HB1 HB2 HB3 HN HH HI
  have c2 := (HO.out.later HB.out).c2
  go_wp2_with fail
  with_reducible refine (HP.out _ HB.out).mono ?_
  rintro e w5 ⟨rfl, hg⟩
  have HF := Lib.hid hg
  clear hg HP HB c2
  go_wp2
  go_ret
  exact ⟨rfl, HF.out⟩
 ·
  rw [if_neg h0, if_neg h0]
  clear HP
  have q1 : (r == 0) = false := by simpa using h0
  have q2 : ¬ r = 0 := h0
  have q3 : (r != 0) = true := by simpa using h0
  go_enter Tryz.func45, Tryz.ntmps45
  have HB0 : Hid (Below w.heap.size w w) := Below.refl _ _
  go_wp2_with fail
  with_reducible refine (HN.out w HB0.out).mono ?_
  rintro e u1 ⟨rfl, hb⟩
  have HB1 := Lib.hid (below_next HB0.out hb)
  clear hb
  go_wp2_with fail
  with_reducible refine (HH.out u1 HB1.out).mono ?_
  rintro e u2 ⟨rfl, hb⟩
  have HB2 := Lib.hid (below_next HB1.out hb)
  clear hb
  go_wp2_with fail
  with_reducible refine (HI.out u2 HB2.out).mono ?_
  rintro e u3 ⟨rfl, hb⟩
  have HB3 := Lib.hid (below_next HB2.out hb)
  clear hb
  go_wp2_with fail
  with_reducible refine (HFS.out _).mono ?_
  rintro e ub ⟨rfl, hub⟩
  have HB : Hid (Below w.heap.size w ub) := by
   show Below _ _ _
   rw [hub]; exact below_alloc HB3.out _
  clear hub HFS HB0 HB1 HB2 HB3 HN HH HI
  go_wp2
  go_ret
  exact ⟨rfl, HO.out.still HB.out⟩
set_option maxRecDepth 100000 in
set_option maxHeartbeats 1000000 in
theorem leave11_calls (g n : ByteArray) (ho : Own11 w0 w D P M G A L S) (hz : g.size ≤ 9223372036854775807) (hn : n.size ≤ 9223372036854775807) :
  Calls Tryz.prog 47 #[.pointer (some ⟨D, 0, none⟩), .string g, .string n] w fun e w' => e = .returned (.int .i64 (leE11 A S g.data.toList n.data.toList)) ∧ Goes11 w0 w D P M G A L (leS11 A S g.data.toList n.data.toList) w' := by
 have HN : Hid (∀ W, Below w.heap.size w W → Calls Tryz.prog 52 #[.string g] W fun e w' => e = .returned (.int .i64 (err5 (name5 g.data.toList) 10)) ∧ Below W.heap.size W w') := fun W hb => Name_calls g W hz
 have HH : Hid (∀ W, Below w.heap.size w W → Calls Tryz.prog 52 #[.string n] W fun e w' => e = .returned (.int .i64 (err5 (name5 n.data.toList) 10)) ∧ Below W.heap.size W w') := fun W hb => Name_calls n W hn
 have HI : Hid (∀ W, Below w.heap.size w W → Calls Tryz.prog 53 #[.pointer (some ⟨D, 0, none⟩), .string n] W fun e w' => e = .returned (.int .i64 (err5 (hasV A n.data.toList) 8)) ∧ Below W.heap.size W w') := fun W hb => isThere11_calls n (ho.later hb) hn
 have HFS : Hid (∀ W : World, Calls Tryz.prog 51 #[.slice (some ⟨W.heap.size, 0, none⟩) 3 3] (W.alloc (.cells #[.int .i64 (err5 (name5 g.data.toList) 10), .int .i64 (err5 (name5 n.data.toList) 10), .int .i64 (err5 (hasV A n.data.toList) 8)] 38)) fun e w' => e = .returned (.int .i64 (ahead11 A g.data.toList n.data.toList)) ∧ w' = W.alloc (.cells #[.int .i64 (err5 (name5 g.data.toList) 10), .int .i64 (err5 (name5 n.data.toList) 10), .int .i64 (err5 (hasV A n.data.toList) 8)] 38)) := fun W => by
  have := firsts11 W [err5 (name5 g.data.toList) 10, err5 (name5 n.data.toList) 10, err5 (hasV A n.data.toList) 8] 38 (by simp)
  rw [first11_ah] at this
  exact this
 have HO := Lib.hid ho
 have HP : Hid (∀ W, Below w.heap.size w W → Calls Tryz.prog 102 #[.pointer (some ⟨G, 0, none⟩), .string g, .string n] W fun e w' => e = .returned (.int .i64 (leE10 S g.data.toList n.data.toList)) ∧ Goes11 w0 w D P M G A L (leS10 S g.data.toList n.data.toList) w') := fun W hb =>
  ((ho.later hb).gleave g n hz hn).mono fun e w' ⟨he, hgo⟩ => ⟨he, hgo.ahead hb⟩
 clear ho  hz hn
 unfold leE11 leS11
 generalize leE10 S g.data.toList n.data.toList = x at *
 generalize leS10 S g.data.toList n.data.toList = S' at *
 generalize ahead11 A g.data.toList n.data.toList = r at *
 generalize err5 (name5 g.data.toList) 10 = e0 at *
 generalize err5 (name5 n.data.toList) 10 = e1 at *
 generalize err5 (hasV A n.data.toList) 8 = e2 at *
 by_cases h0 : r = 0
 ·
  subst h0
  rw [if_pos rfl, if_pos rfl]
  go_enter Tryz.func47, Tryz.ntmps47
  have HB0 : Hid (Below w.heap.size w w) := Below.refl _ _
  go_wp2_with fail
  with_reducible refine (HN.out w HB0.out).mono ?_
  rintro e u1 ⟨rfl, hb⟩
  have HB1 := Lib.hid (below_next HB0.out hb)
  clear hb
  go_wp2_with fail
  with_reducible refine (HH.out u1 HB1.out).mono ?_
  rintro e u2 ⟨rfl, hb⟩
  have HB2 := Lib.hid (below_next HB1.out hb)
  clear hb
  go_wp2_with fail
  with_reducible refine (HI.out u2 HB2.out).mono ?_
  rintro e u3 ⟨rfl, hb⟩
  have HB3 := Lib.hid (below_next HB2.out hb)
  clear hb
  go_wp2_with fail
  with_reducible refine (HFS.out _).mono ?_
  rintro e ub ⟨rfl, hub⟩
  have HB : Hid (Below w.heap.size w ub) := by
   show Below _ _ _
   rw [hub]; exact below_alloc HB3.out _
  clear hub HFS HB0 HB1 HB2 HB3 HN HH HI
  have c2 := (HO.out.later HB.out).c2
  go_wp2_with fail
  with_reducible refine (HP.out _ HB.out).mono ?_
  rintro e w5 ⟨rfl, hg⟩
  have HF := Lib.hid hg
  clear hg HP HB c2
  go_wp2
  go_ret
  exact ⟨rfl, HF.out⟩
 ·
  rw [if_neg h0, if_neg h0]
  clear HP
  have q1 : (r == 0) = false := by simpa using h0
  have q2 : ¬ r = 0 := h0
  have q3 : (r != 0) = true := by simpa using h0
  go_enter Tryz.func47, Tryz.ntmps47
  have HB0 : Hid (Below w.heap.size w w) := Below.refl _ _
  go_wp2_with fail
  with_reducible refine (HN.out w HB0.out).mono ?_
  rintro e u1 ⟨rfl, hb⟩
  have HB1 := Lib.hid (below_next HB0.out hb)
  clear hb
  go_wp2_with fail
  with_reducible refine (HH.out u1 HB1.out).mono ?_
  rintro e u2 ⟨rfl, hb⟩
  have HB2 := Lib.hid (below_next HB1.out hb)
  clear hb
  go_wp2_with fail
  with_reducible refine (HI.out u2 HB2.out).mono ?_
  rintro e u3 ⟨rfl, hb⟩
  have HB3 := Lib.hid (below_next HB2.out hb)
  clear hb
  go_wp2_with fail
  with_reducible refine (HFS.out _).mono ?_
  rintro e ub ⟨rfl, hub⟩
  have HB : Hid (Below w.heap.size w ub) := by
   show Below _ _ _
   rw [hub]; exact below_alloc HB3.out _
  clear hub HFS HB0 HB1 HB2 HB3 HN HH HI
  go_wp2
  go_ret
  exact ⟨rfl, HO.out.still HB.out⟩
set_option maxRecDepth 100000 in
set_option maxHeartbeats 1000000 in
theorem makeGroup11_calls (g : ByteArray) (ho : Own11 w0 w D P M G A L S) (hg : Good11 A L S k) (hz : g.size ≤ 9223372036854775807) :
  Calls Tryz.prog 41 #[.pointer (some ⟨D, 0, none⟩), .string g] w fun e w' => e = .returned (.int .i64 (maE10 S g.data.toList)) ∧ Goes11 w0 w D P M G A L (maS10 S g.data.toList) w' := by
 have HP := Lib.hid (ho.gmake hg.grp g hz)
 have c2 := ho.c2
 clear ho hz
 generalize maE10 S g.data.toList = x at *
 generalize maS10 S g.data.toList = S' at *
 go_enter Tryz.func41, Tryz.ntmps41
 go_wp2_with fail
 with_reducible refine HP.out.mono ?_
 rintro e w5 ⟨rfl, hg⟩
 have HF := Lib.hid hg
 clear hg HP c2
 go_wp2
 go_ret
 exact ⟨rfl, HF.out⟩
set_option maxRecDepth 100000 in
set_option maxHeartbeats 1000000 in
theorem dropGroup11_calls (g : ByteArray) (ho : Own11 w0 w D P M G A L S) (hz : g.size ≤ 9223372036854775807) :
  Calls Tryz.prog 43 #[.pointer (some ⟨D, 0, none⟩), .string g] w fun e w' => e = .returned (.int .i64 (drE10 S g.data.toList)) ∧ Goes11 w0 w D P M G A L (drS10 S g.data.toList) w' := by
 have HP := Lib.hid (ho.gdrop g hz)
 have c2 := ho.c2
 clear ho hz
 generalize drE10 S g.data.toList = x at *
 generalize drS10 S g.data.toList = S' at *
 go_enter Tryz.func43, Tryz.ntmps43
 go_wp2_with fail
 with_reducible refine HP.out.mono ?_
 rintro e w5 ⟨rfl, hg⟩
 have HF := Lib.hid hg
 clear hg HP c2
 go_wp2
 go_ret
 exact ⟨rfl, HF.out⟩
end
end Go.Proofs.YthlgmkfofebbfaaGreatDoor


namespace Go.Proofs.YthlgmkfofebbfaaGreatDoor
open Go.RowKit

def val : List UInt8 → Nat
 | [] => 0
 | b :: l => b.toNat + 256 * val l
end Go.Proofs.YthlgmkfofebbfaaGreatDoor


namespace Go.Proofs.YthlgmkfofebbfaaGreatDoor
open Go.RowKit

def UsB (w : World) (B : Nat) (u : Us) : Prop := w.heap[B]? = some (.cells #[.string u.nm, .string u.hs, .string u.ml, .bool u.dis, .slice u.ga u.gs.length u.gc] 37 (0, 0))
theorem UsB.at_ {w : World} {B : Nat} {u : Us} (h : UsB w B u) : UsAt w B u := by
 refine ⟨(Array.getElem?_eq_some_iff.1 h).1, ?_, ?_, ?_, ?_, ?_⟩
 all_goals
  rw [cell_of_row w B _ _ _ (0, 0) h]
  rfl
theorem UsB.new (w : World) (u : Us) : UsB (w.alloc (.cells #[.string u.nm, .string u.hs, .string u.ml, .bool u.dis, .slice u.ga u.gs.length u.gc] 37)) w.heap.size u := heap_alloc_new w _
theorem UsB.below {w W : World} {B : Nat} {u : Us} (h : UsB w B u) (hb : Below w.heap.size w W) : UsB W B u := (hb.block B (Array.getElem?_eq_some_iff.1 h).1).trans h

structure Us.Little (u : Us) : Prop where
 nm : u.nm.size ≤ 12
 hs : u.hs.size ≤ 12
 ml : u.ml.size ≤ 20
 len : u.gs.length ≤ 6
 all : ∀ s ∈ u.gs, s.size ≤ 12

theorem SeqG.any {cs : List Nat} {St : Nat → World → Prop} {L : Nat → Bool} {W : World} {p : Prop} (h : SeqG cs St L W) (hp : ∀ m, St m W → p) : p := by
 obtain ⟨m, _, hs, _⟩ := h
 exact hp m hs
theorem SeqG.last {cs : List Nat} {St : Nat → World → Prop} {L : Nat → Bool} {W : World} (h : SeqG cs St L W) (hL : ∀ r, r < cs.length → L (cs.getD r 0) = true) : St cs.length W := by
 obtain ⟨m, hm, hs, hr⟩ := h
 have : m = cs.length := by
  by_cases e : m = cs.length
  ·
   exact e
  ·
   have h1 := hr m (by omega)
   rw [hL m (by omega)] at h1
   simp at h1
 rw [← this]
 exact hs

end Go.Proofs.YthlgmkfofebbfaaGreatDoor


namespace Go.Proofs.YthlgmkfofebbfaaGreatDoor
open Go.RowKit



end Go.Proofs.YthlgmkfofebbfaaGreatDoor


namespace Go.Proofs.YthlgmkfofebbfaaGreatDoor
open Go.RowKit

def Blk5 (w : World) (B : Nat) (a b c d e : Value) : Prop := w.heap[B]? = some (.cells #[a, b, c, d, e] 37 (0, 0))
theorem Blk5.lt {w : World} {B : Nat} {a b c d e : Value} (h : Blk5 w B a b c d e) : B < w.heap.size := (Array.getElem?_eq_some_iff.1 h).1
theorem Blk5.at_ {w : World} {B : Nat} {a b c d e : Value} (h : Blk5 w B a b c d e) (j : Nat) : w.cell? ⟨B, j, none⟩ = #[a, b, c, d, e][j]? := cell_of_row w B j _ _ (0, 0) h
theorem Blk5.free {w : World} {B : Nat} {a b c d e : Value} (h : Blk5 w B a b c d e) (j : Nat) : w.frozen? ⟨B, j, none⟩ = false := by
 have h' : w.heap[B]? = some (.cells #[a, b, c, d, e] 37 (0, 0)) := h
 simp [World.frozen?, h']
theorem Blk5.other {w : World} {B C j : Nat} {a b c d e : Value} (h : Blk5 w B a b c d e) (hne : B ≠ C) (x : Value) : Blk5 (w.setCell ⟨C, j, none⟩ x) B a b c d e := by
 show (w.setCell ⟨C, j, none⟩ x).heap[B]? = _
 rw [Below.heap_setCell _ _ _ _ hne]
 exact h

def set5 (w : World) (B : Nat) (a b c d e : Value) : World := ((((w.setCell ⟨B, 0, none⟩ a).setCell ⟨B, 1, none⟩ b).setCell ⟨B, 2, none⟩ c).setCell ⟨B, 3, none⟩ d).setCell ⟨B, 4, none⟩ e
theorem Blk5.set5 {w : World} {B : Nat} {a b c d e : Value} (h : Blk5 w B a b c d e) (a' b' c' d' e' : Value) : Blk5 (set5 w B a' b' c' d' e') B a' b' c' d' e' := by
 have h' : w.heap[B]? = some (.cells #[a, b, c, d, e] 37 (0, 0)) := h
 simp [Blk5, Go.Proofs.YthlgmkfofebbfaaGreatDoor.set5, World.setCell, Array.getElem?_modify, h']
theorem turns_set5 {S : Nat → Prop} {a0 w : World} (h : Turns S a0 w) (B : Nat) (hB : B < a0.heap.size → S B) (a b c d e : Value) : Turns S a0 (set5 w B a b c d e) :=
 ((((h.setCell (p := ⟨B, 0, none⟩) hB a).setCell (p := ⟨B, 1, none⟩) hB b).setCell (p := ⟨B, 2, none⟩) hB c).setCell (p := ⟨B, 3, none⟩) hB d).setCell (p := ⟨B, 4, none⟩) hB e

end Go.Proofs.YthlgmkfofebbfaaGreatDoor


namespace Go.Proofs.YthlgmkfofebbfaaGreatDoor
open Go.RowKit Go.Maps Go.Sort Go.Shelf

theorem lt7 (x y : List UInt8) : ltOf Lib.compareBytes x y = bytesBefore x y := before_cmp x y
theorem swo7 : SWO (ltOf Lib.compareBytes) where
 irrefl x := by rw [lt7]; exact before_irrefl x
 trans x y z h1 h2 := by rw [lt7] at *; exact WideShapes.bytes_trans _ _ _ h1 h2
 ntrans x y z h1 h2 := by
  rw [lt7] at *
  cases h : bytesBefore x z
  ·
   rfl
  ·
   by_cases e : x = y
   ·
    subst e; rw [h] at h2; cases h2
   ·
    rcases WideAt.bytes_total x y e with h' | h'
    ·
     rw [h'] at h1; cases h1
    ·
     rw [WideShapes.bytes_trans _ _ _ h' h] at h2; cases h2
theorem tot7 (x y : List UInt8) (h1 : ltOf Lib.compareBytes x y = false) (h2 : ltOf Lib.compareBytes y x = false) : x = y := by
 rw [lt7] at *
 by_cases e : x = y
 ·
  exact e
 ·
  rcases WideAt.bytes_total x y e with h' | h'
  ·
   rw [h'] at h1; cases h1
  ·
   rw [h'] at h2; cases h2
theorem cmp7 (blk off size : Nat) (w : World) : CmpLays1 Tryz.prog 121 #[] encStr Lib.compareBytes blk off size w :=
 CmpReads.lays fun _ _ _ _ x y => (compare_calls ⟨x.toArray⟩ ⟨y.toArray⟩ _).mono fun e w' ⟨he, hw⟩ => ⟨by rw [he], 0, hw⟩

set_option maxRecDepth 100000 in
set_option maxHeartbeats 1000000 in
theorem sortedf7_calls (g : Nat) (lb : Array Value) (S : List (List UInt8) → Prop) (N : Nat) (w : World) (eg : ∀ args w, (callFunc g args).run Tryz.prog w = .ok (.enter g args) w) (hN : N ≤ 1000) (hSN : ∀ ss, S ss → ss.length ≤ 1000) (hseq : SeqGives Fence.wide 2 Tryz.prog g lb encStr S N w) :
  Calls Tryz.prog 119 #[.func (.func g) #[] lb, .func (.func 121) #[] #[]] w fun e w' => ∃ (v : Value) (ss : List (List UInt8)), e = .returned v ∧ S ss ∧
   w'.ownsRow w.heap.size 9 1 v ss.length ((ss.mergeSort (fun x y => !(ltOf Lib.compareBytes) y x)).map encStr) ∧ (v = .slice none 0 0 ↔ ss = []) ∧ Below w.heap.size w w' := by
 have cC : Calls Tryz.prog 148 #[.func (.func g) #[] lb] w fun e w' => ∃ (v : Value) (ss : List (List UInt8)), e = .returned v ∧ S ss ∧ w'.ownsRow w.heap.size 9 1 v ss.length (ss.map encStr) ∧ (v = .slice none 0 0 ↔ ss = []) ∧ Below w.heap.size w w' :=
  (callsIn_wide (n := 4)).1 (AnyZ.collect_in Tryz.collect7 Fence.wide 4 trivial trivial rfl (by omega) g lb trivial eg S N (Nat.le_trans hN (by decide)) (by omega) w hseq)
 have HC := Lib.hid cC
 have HS : Hid (∀ (blk cap : Nat) (ss : List (List UInt8)) (W : World), Holds encStr W blk 0 ss.toArray → blk < W.heap.size → ss.length < 4611686018427387904 →
   Calls Tryz.prog 149 #[.slice (some ⟨blk, 0, none⟩) ss.length cap, .func (.func 121) #[] #[]] W fun e w' => e = .returned (.tuple #[]) ∧ ∃ n os, w' = grow (putRow encStr (Sort.ahead W n) blk 0 (ss.mergeSort fun x y => !(ltOf Lib.compareBytes) y x).toArray) os) := fun blk cap ss W hH hb hl => by
  have := Tryz.slices_SortFunc_total encStr (fun _ => rfl) Lib.compareBytes swo7 121 #[] blk 0 cap ss.toArray W (enters_of Tryz.func121 (by kernel_rfl) rfl) (cmp7 blk 0 _ W) hH hb (by simpa using hl) tot7
  simpa [sortWorld] using this
 have HS0 : Hid (∀ (cap : Nat) (W : World), Calls Tryz.prog 149 #[.slice none 0 cap, .func (.func 121) #[] #[]] W fun e w' => e = .returned (.tuple #[]) ∧ w' = W) := fun cap W => Tryz.slices_SortFunc_none (α := List UInt8) none cap _ W
 clear cC hseq
 go_enter Tryz.func119, Tryz.ntmps119
 go_wp2_with fail
 with_reducible refine HC.out.mono ?_
 rintro e W ⟨v, ss, rfl, hS, hrow, hnil, hb⟩
 have hln := hSN _ hS
 have HSS := Lib.hid hS
 have HNL := Lib.hid hnil
 have HB := Lib.hid hb
 have HR := Lib.hid hrow
 clear hS hnil hb HC
 rcases hrow.2 with ⟨rfl, hz⟩ | ⟨gb, cap, cur, rfl, hbase, hgb, r1, r2, r3, r4⟩
 ·
  have hss : ss = [] := List.eq_nil_of_length_eq_zero hz
  subst hss
  clear hrow hz hln hSN
  go_wp2_with (go_at_call 149; (with_reducible refine (HS0.out _ _).mono ?_); rintro e w' ⟨rfl, rfl⟩)
  go_ret
  exact ⟨.slice none 0 0, [], rfl, HSS.out, by simpa using HR.out, by simp, HB.out⟩
 ·
  have hH : Holds encStr W gb 0 ss.toArray := holds_of_block hgb (by simpa using r4)
  have hgl : gb < W.heap.size := (Array.getElem?_eq_some_iff.1 hgb).1
  have cS := Lib.hid (HS.out gb cap ss W hH hgl (by omega))
  have HF : Hid (∀ n os, (grow (putRow encStr (Sort.ahead W n) gb 0 (ss.mergeSort fun x y => !(ltOf Lib.compareBytes) y x).toArray) os).ownsRow w.heap.size 9 1 (.slice (some ⟨gb, 0, none⟩) ss.length cap) ss.length ((ss.mergeSort (fun x y => !(ltOf Lib.compareBytes) y x)).map encStr) ∧
    Below w.heap.size w (grow (putRow encStr (Sort.ahead W n) gb 0 (ss.mergeSort fun x y => !(ltOf Lib.compareBytes) y x).toArray) os)) := fun n os =>
   ⟨ownsRow_sorted (by simp) hbase hgb r1 r2 r3, HB.out.grown (grownBy_sorted _) HB.out.size (fun j hj => by cases hj; exact hbase)⟩
  clear hrow hbase hgb r1 r2 r3 r4 hH hgl HR HB HS HS0
  generalize hts : (ss.mergeSort fun x y => !(ltOf Lib.compareBytes) y x) = ts at cS HF
  have HT := Lib.hid hts
  clear hts hln hSN
  generalize hn : ss.length = n at *
  go_wp2_with (go_at_call 149; (with_reducible refine cS.out.mono ?_); rintro e w' ⟨rfl, nn, os, rfl⟩)
  go_ret
  subst hn
  refine ⟨_, ss, rfl, HSS.out, ?_, HNL.out, (HF.out nn os).2⟩
  rw [HT.out]
  exact (HF.out nn os).1


end Go.Proofs.YthlgmkfofebbfaaGreatDoor


namespace Go.Proofs.YthlgmkfofebbfaaGreatDoor
open Go.ChangeShapes Go.WideShapes Go.ChangeAt Go.RowKit Go.Deep

structure Act7 where
 kd : Nat
 nm : ByteArray
 hs : ByteArray
def Act7.cells (t : Act7) : List Value := [.int .u8 (t.kd : Int), .string t.nm, .string t.hs]
def RdA7 (w : World) (A : Option Addr) (l : List Act7) : Prop :=
 l ≠ [] → ∃ b off, A = some ⟨b, off, none⟩ ∧ b < w.heap.size ∧ ∀ i (hi : i < l.length) j u, l[i].cells[j]? = some u → w.cell? ⟨b, off + i * 3 + j, none⟩ = some u
theorem RdA7.later {w w' : World} {A : Option Addr} {l : List Act7} (h : RdA7 w A l) (hb : Below w.heap.size w w') : RdA7 w' A l := fun hl => by
 obtain ⟨b, off, rfl, hlt, hc⟩ := h hl
 exact ⟨b, off, rfl, Nat.lt_of_lt_of_le hlt hb.size, fun i hi j u hu => (hb.cell (p := ⟨b, off + i * 3 + j, none⟩) hlt).trans (hc i hi j u hu)⟩


section
variable {H : Type} {enc : TypeId × Value → H} {W : World} {base : Nat} {sp : Nat → Bool} {hd : Bool} {fuel : Nat}
end
end Go.Proofs.YthlgmkfofebbfaaGreatDoor


namespace Go.Proofs.YthlgmkfofebbfaaGreatDoor
open Go.ChangeShapes Go.WideShapes Go.ChangeAt Go.RowKit Go.Deep

section
variable {H : Type} {enc : TypeId × Value → H} {W : World} {base : Nat} {sp : Nat → Bool} {hd : Bool} {fuel : Nat}
end
end Go.Proofs.YthlgmkfofebbfaaGreatDoor


namespace Go.Proofs.YthlgmkfofebbfaaGreatDoor
open Go.RowKit Go.Maps

def Keeps10 (W w' : World) : Prop := ∀ (k : Nat) (c : Array Value) (T : TypeId) (fr : Nat × Nat), W.heap[k]? = some (.cells c T fr) → T ≠ 104 → w'.heap[k]? = some (.cells c T fr)
theorem Keeps10.of_below {W w' : World} (hb : Below W.heap.size W w') : Keeps10 W w' := fun k _ _ _ h _ => (hb.block k (Array.getElem?_eq_some_iff.1 h).1).trans h
theorem Keeps10.trans {a b c : World} (h : Keeps10 a b) (k : Keeps10 b c) : Keeps10 a c := fun i x T fr hi hT => k i x T fr (h i x T fr hi hT) hT
theorem Goes10.keeps {W w' : World} {B : Nat} {p : Option Nat} {T : Rows10} {S' : Grs10} (hd : Grp10 W B p T) (hg : Goes10 W B p T S' w') : Keeps10 W w' := by
 obtain ⟨_, _, _, _, _, _, ht⟩ := hg
 intro k c T fr hk hT
 refine (ht.block k (Array.getElem?_eq_some_iff.1 hk).1 ?_).trans hk
 rintro (rfl | e | ⟨x, hx, rfl⟩)
 ·
  rw [hd.blk] at hk
  injection hk with hk
  injection hk with _ h
  exact hT h.symm
 ·
  exact map_ne_cells10 (hd.map k e) hk rfl
 ·
  exact map_ne_cells10 (hd.sets x hx) hk rfl

def Own10 (w0 W : World) (B : Nat) (S : Grs10) (k : Nat) : Prop := ∃ p T, New10 w0 W B p T ∧ plain10 T = S ∧ Good10 S k ∧ Below w0.heap.size w0 W
section
variable {w0 W W' : World} {B k : Nat} {S : Grs10}
theorem Own10.below (h : Own10 w0 W B S k) : Below w0.heap.size w0 W := by obtain ⟨_, _, _, _, _, h⟩ := h; exact h
theorem Own10.later (h : Own10 w0 W B S k) (hb : Below W.heap.size W W') : Own10 w0 W' B S k := by
 obtain ⟨p, T, hd, hS, hg, h3⟩ := h
 exact ⟨p, T, ⟨hd.1.later hb, hd.2⟩, hS, hg, below_next h3 hb⟩
theorem Own10.mono {k' : Nat} (h : Own10 w0 W B S k) (hk : k ≤ k') : Own10 w0 W B S k' := by
 obtain ⟨p, T, hd, hS, hg, h3⟩ := h
 exact ⟨p, T, hd, hS, hg.mono hk, h3⟩
theorem Own10.goes {S' : Grs10} {p : Option Nat} {T : Rows10} {k' : Nat} (hd : New10 w0 W B p T) (h3 : Below w0.heap.size w0 W) (hg' : Good10 S' k') (hg : Goes10 W B p T S' W') : Own10 w0 W' B S' k' := by
 obtain ⟨p', T', hd', hS', hp, hx, ht⟩ := hg
 obtain ⟨hi, h1, h2, h4⟩ := hd
 refine ⟨p', T', ⟨hd', h1, fun b hb => ?_, fun x hxx => ?_⟩, hS', hg', h3.trans (Turns.below_at ht h3.size ?_)⟩
 ·
  rcases hp b hb with h | h
  ·
   exact h2 b h
  ·
   exact Nat.le_trans h3.size h
 ·
  rcases hx x hxx with ⟨y, hy, e⟩ | h
  ·
   rw [← e]; exact h4 y hy
  ·
   exact Nat.le_trans h3.size h
 ·
  rintro i (rfl | e | ⟨x, hx, rfl⟩)
  ·
   exact h1
  ·
   exact h2 i e
  ·
   exact h4 x hx
theorem rows_few {T : Rows10} (hg : Good10 (plain10 T) k) : T.length ≤ 6 := by have := hg.few; rwa [plain10_len] at this
theorem rows_little {T : Rows10} (hg : Good10 (plain10 T) k) (hk : k ≤ 900) : ∀ x ∈ T, x.2.2.length ≤ 1000 := fun x hx => by
 have := hg.little (x.1, x.2.2) (List.mem_map.2 ⟨x, hx, rfl⟩)
 exact Nat.le_trans this (by omega)
theorem rows_named {T : Rows10} (hg : Good10 (plain10 T) k) : ∀ x ∈ T, x.1.length ≤ 1000 := fun x hx => by
 have := name10_len (hg.named (x.1, x.2.2) (List.mem_map.2 ⟨x, hx, rfl⟩))
 exact Nat.le_trans this (by omega)
theorem rows_rise {T : Rows10} (hg : Good10 (plain10 T) k) : ∀ x ∈ T, RiseV x.2.2 := fun x hx => hg.sets (x.1, x.2.2) (List.mem_map.2 ⟨x, hx, rfl⟩)

theorem Own10.make (h : Own10 w0 W B S k) (g : ByteArray) (hg : g.size ≤ 9223372036854775807) :
  Calls Tryz.prog 74 #[.pointer (some ⟨B, 0, none⟩), .string g] W fun e w' => e = .returned (.int .i64 (maE10 S g.data.toList)) ∧ Own10 w0 w' B (maS10 S g.data.toList) k ∧ Keeps10 W w' := by
 obtain ⟨p, T, hd, rfl, hgd, h3⟩ := h
 exact (make10_calls B p T g W hd.1 (rows_few hgd) hg).mono fun e w' ⟨he, hgo⟩ => ⟨he, Own10.goes hd h3 (good_make hgd _) hgo, hgo.keeps hd.1⟩
theorem Own10.drop (h : Own10 w0 W B S k) (g : ByteArray) (hg : g.size ≤ 9223372036854775807) :
  Calls Tryz.prog 98 #[.pointer (some ⟨B, 0, none⟩), .string g] W fun e w' => e = .returned (.int .i64 (drE10 S g.data.toList)) ∧ Own10 w0 w' B (drS10 S g.data.toList) k ∧ Keeps10 W w' := by
 obtain ⟨p, T, hd, rfl, hgd, h3⟩ := h
 exact (drop10_calls B p T g W hd.1 hg).mono fun e w' ⟨he, hgo⟩ => ⟨he, Own10.goes hd h3 (good_drop hgd _) hgo, hgo.keeps hd.1⟩
theorem Own10.join (h : Own10 w0 W B S k) (hk : k ≤ 900) (g n : ByteArray) (hg : g.size ≤ 9223372036854775807) (hn : n.size ≤ 9223372036854775807) :
  Calls Tryz.prog 101 #[.pointer (some ⟨B, 0, none⟩), .string g, .string n] W fun e w' => e = .returned (.int .i64 (joE10 S g.data.toList n.data.toList)) ∧ Own10 w0 w' B (joS10 S g.data.toList n.data.toList) (k + 1) ∧ Keeps10 W w' := by
 obtain ⟨p, T, hd, rfl, hgd, h3⟩ := h
 exact (join10_calls B p T g n W hd.1 (rows_little hgd hk) hg hn).mono fun e w' ⟨he, hgo⟩ => ⟨he, Own10.goes hd h3 (good_join hgd _ _) hgo, hgo.keeps hd.1⟩
theorem Own10.leave (h : Own10 w0 W B S k) (g n : ByteArray) (hg : g.size ≤ 9223372036854775807) (hn : n.size ≤ 9223372036854775807) :
  Calls Tryz.prog 102 #[.pointer (some ⟨B, 0, none⟩), .string g, .string n] W fun e w' => e = .returned (.int .i64 (leE10 S g.data.toList n.data.toList)) ∧ Own10 w0 w' B (leS10 S g.data.toList n.data.toList) k ∧ Keeps10 W w' := by
 obtain ⟨p, T, hd, rfl, hgd, h3⟩ := h
 exact (leave10_calls B p T g n W hd.1 hg hn).mono fun e w' ⟨he, hgo⟩ => ⟨he, Own10.goes hd h3 (good_leave hgd _ _) hgo, hgo.keeps hd.1⟩
theorem Own10.rename (h : Own10 w0 W B S k) (hk : k ≤ 900) (o n : ByteArray) (ho : o.size ≤ 9223372036854775807) (hn : n.size ≤ 9223372036854775807) :
  Calls Tryz.prog 86 #[.pointer (some ⟨B, 0, none⟩), .string o, .string n] W fun e w' => e = .returned (.int .i64 (reE10 S o.data.toList n.data.toList)) ∧ Own10 w0 w' B (reS10 S o.data.toList n.data.toList) k ∧ Keeps10 W w' := by
 obtain ⟨p, T, hd, rfl, hgd, h3⟩ := h
 have hf := rows_few hgd
 exact (rename10_calls B p T o n W hd.1 (by omega) (rows_named hgd) (rows_little hgd hk) ho hn).mono fun e w' ⟨he, hgo⟩ => ⟨he, Own10.goes hd h3 (good_rename hgd _ _) hgo, hgo.keeps hd.1⟩
theorem Own10.remove (h : Own10 w0 W B S k) (n : ByteArray) (hn : n.size ≤ 9223372036854775807) :
  Calls Tryz.prog 78 #[.pointer (some ⟨B, 0, none⟩), .string n] W fun e w' => e = .returned (.int .i64 ((of10 S n.data.toList).length : Nat)) ∧ Own10 w0 w' B (rmS10 S n.data.toList) k ∧ Keeps10 W w' := by
 obtain ⟨p, T, hd, rfl, hgd, h3⟩ := h
 have hf := rows_few hgd
 exact (remove10_calls B p T n W hd.1 (by omega) (rows_named hgd) hn).mono fun e w' ⟨he, hgo⟩ => ⟨he, Own10.goes hd h3 (good_remove hgd _) hgo, hgo.keeps hd.1⟩
theorem Own10.members (h : Own10 w0 W B S k) (hk : k ≤ 900) (g : ByteArray) (hg : g.size ≤ 9223372036854775807) :
  Calls Tryz.prog 65 #[.pointer (some ⟨B, 0, none⟩), .string g] W fun e w' => ∃ v, e = .returned (.tuple #[v, .int .i64 (drE10 S g.data.toList)]) ∧ w'.ownsRow W.heap.size 9 1 v (meL10 S g.data.toList).length ((meL10 S g.data.toList).map encStr) ∧ Below W.heap.size W w' := by
 obtain ⟨p, T, hd, rfl, hgd, h3⟩ := h
 exact members10_calls B p T g W hd.1 (rows_rise hgd) (rows_little hgd hk) hg
end



end Go.Proofs.YthlgmkfofebbfaaGreatDoor


namespace Go.Proofs.YthlgmkfofebbfaaGreatDoor
open Go.RowKit

set_option maxRecDepth 100000 in
theorem in5_calls (c : UInt8) (s : ByteArray) (w : World) (hs : s.size ≤ 1000) :
  Calls Tryz.prog 115 #[.int .u8 c.toNat, .string s] w fun e w' => e = .returned (.bool (s.data.toList.contains c)) ∧ w' = w := by
 obtain ⟨r, hr⟩ : ∃ r, r = s.data.toList.contains c := ⟨_, rfl⟩
 rw [← hr]
 have HR := Lib.hid hr
 clear hr
 generalize hn : s.size = n at *
 have HN := Lib.hid hn
 have HC : Hid (∀ x : UInt8, ((x.toNat : Int) = (c.toNat : Int)) ↔ x = c) := fun x => ⟨fun h => UInt8.toNat_inj.1 (by omega), fun h => by rw [h]⟩
 clear hn
 generalize hcn : (c.toNat : Int) = cn at *
 clear hcn
 go_enter Tryz.func115, Tryz.ntmps115
 go_wp2
 go_loopg [5] n (fun gg s5 wr => ∃ k : Nat, k ≤ n ∧ n - k ≤ gg ∧ s5 = .int .i64 k ∧ wr = w ∧ Hid (∀ j (h : j < s.size), j < k → ¬ s[j] = c))
 case atStart => exact ⟨0, Nat.zero_le _, by omega, rfl, rfl, fun j _ hj => absurd hj (Nat.not_lt_zero _)⟩
 case round =>
  obtain ⟨k, hk, hg, rfl, rfl, A⟩ := hrel
  have hsz := HN.out
  by_cases hlt : k < n
  ·
   have hltz : (k : Int) < (n : Int) := by omega
   have hks : k < s.size := by omega
   have hx : ∀ (h : k < s.size), ((s[k]'h).toNat : Int) = bt5 s k := fun h => by unfold bt5; rw [dif_pos h]
   have he := hx hks ▸ HC.out s[k]
   by_cases hq : s[k] = c
   ·
    have hq' : bt5 s k = cn := he.2 hq
    have HQ := Lib.hid hq
    clear hq he
    go_wp2
    go_ret
    refine ⟨?_, rfl⟩
    have : s.data.toList.contains c = true := by
     rw [List.contains_iff_mem, ← HQ.out]
     exact Array.mem_toList_iff.2 (Array.getElem_mem (xs := s.data) (i := k) hks)
    rw [HR.out, this]; rfl
   ·
    have hq' : ¬ bt5 s k = cn := fun h => hq (he.1 h)
    have HQ := Lib.hid hq
    clear hq he
    go_wp2
    go_roundg (n - (k + 1))
    case measure => omega
    case rel =>
     refine ⟨k + 1, by omega, by omega, by go_num, rfl, (show Hid _ from fun j h hj => ?_)⟩
     by_cases e : j = k
     ·
      subst e
      exact HQ.out
     ·
      exact A.out j h (by omega)
  ·
   have hltz : ¬ (k : Int) < (n : Int) := by omega
   obtain rfl : k = n := by omega
   have hrf : r = false := by
    rw [HR.out, Bool.eq_false_iff]
    intro h
    rw [List.contains_iff_mem] at h
    obtain ⟨j, hj, he⟩ := Array.getElem_of_mem (Array.mem_toList_iff.1 h)
    exact A.out j hj (by have : j < s.size := hj; omega) he
   subst hrf
   go_wp2
   go_ret
   exact ⟨rfl, rfl⟩

set_option maxRecDepth 100000 in
theorem of5_calls (s t : ByteArray) (w : World) (hs : s.size ≤ 1000) (ht : t.size ≤ 1000) :
  Calls Tryz.prog 122 #[.string s, .string t] w fun e w' => e = .returned (.bool (s.data.toList.all (fun x => t.data.toList.contains x))) ∧ w' = w := by
 obtain ⟨r, hr⟩ : ∃ r, r = s.data.toList.all (fun x => t.data.toList.contains x) := ⟨_, rfl⟩
 rw [← hr]
 have HR := Lib.hid hr
 have HI := Lib.hid (fun c => in5_calls c t w ht)
 clear hr
 generalize hn : s.size = n at *
 have HN := Lib.hid hn
 clear hn
 go_enter Tryz.func122, Tryz.ntmps122
 go_wp2
 go_loopg [5] n (fun gg s5 wr => ∃ k : Nat, k ≤ n ∧ n - k ≤ gg ∧ s5 = .int .i64 k ∧ wr = w ∧ Hid (∀ j (h : j < s.size), j < k → t.data.toList.contains s[j] = true))
 case atStart => exact ⟨0, Nat.zero_le _, by omega, rfl, rfl, fun j _ hj => absurd hj (Nat.not_lt_zero _)⟩
 case round =>
  obtain ⟨k, hk, hg, rfl, rfl, A⟩ := hrel
  have hsz := HN.out
  by_cases hlt : k < n
  ·
   have hltz : (k : Int) < (n : Int) := by omega
   have hks : k < s.size := by omega
   have hx : ∀ (h : k < s.size), ((s[k]'h).toNat : Int) = bt5 s k := fun h => by unfold bt5; rw [dif_pos h]
   have hcall := hx hks ▸ HI.out s[k]
   cases hq : t.data.toList.contains s[k] with
   | false =>
    rw [hq] at hcall
    have HQ := Lib.hid hq
    have HC := Lib.hid hcall
    clear hq hcall
    go_wp2_with fail
    with_reducible refine HC.out.mono ?_
    rintro e w1 ⟨rfl, rfl⟩
    go_wp2
    go_ret
    refine ⟨?_, rfl⟩
    have : (s.data.toList.all fun x => t.data.toList.contains x) = false := by
     rw [List.all_eq_false]
     exact ⟨s[k], Array.mem_toList_iff.2 (Array.getElem_mem (xs := s.data) (i := k) hks), by rw [HQ.out]; simp⟩
    rw [HR.out, this]; rfl
   | true =>
    rw [hq] at hcall
    have HQ := Lib.hid hq
    have HC := Lib.hid hcall
    clear hq hcall
    go_wp2_with (go_at_call 115; with_reducible refine HC.out.mono ?_; rintro e w1 ⟨rfl, rfl⟩)
    go_roundg (n - (k + 1))
    case measure => omega
    case rel =>
     refine ⟨k + 1, by omega, by omega, by go_num, rfl, (show Hid _ from fun j h hj => ?_)⟩
     by_cases e : j = k
     ·
      subst e
      exact HQ.out
     ·
      exact A.out j h (by omega)
  ·
   have hltz : ¬ (k : Int) < (n : Int) := by omega
   obtain rfl : k = n := by omega
   have hrf : r = true := by
    rw [HR.out, List.all_eq_true]
    intro x hx
    obtain ⟨j, hj, rfl⟩ := Array.getElem_of_mem (Array.mem_toList_iff.1 hx)
    exact A.out j hj (by have : j < s.size := hj; omega)
   subst hrf
   go_wp2
   go_ret
   exact ⟨rfl, rfl⟩

theorem all_bytes {p q : UInt8 → Bool} (h : ∀ n, n < 256 → p (UInt8.ofNat n) = q (UInt8.ofNat n)) (x : UInt8) : p x = q x := by
 have := h x.toNat x.toNat_lt
 rwa [UInt8.ofNat_toNat] at this
theorem let5_has (x : UInt8) : (ByteArray.mk #[97, 98, 99, 100, 101, 102, 103, 104, 105, 106, 107, 108, 109, 110, 111, 112, 113, 114, 115, 116, 117, 118, 119, 120, 121, 122]).data.toList.contains x = letter5 x := all_bytes (p := fun x => (ByteArray.mk #[97, 98, 99, 100, 101, 102, 103, 104, 105, 106, 107, 108, 109, 110, 111, 112, 113, 114, 115, 116, 117, 118, 119, 120, 121, 122]).data.toList.contains x) (by decide +kernel) x
theorem both5_has (x : UInt8) : (ByteArray.mk #[97, 98, 99, 100, 101, 102, 103, 104, 105, 106, 107, 108, 109, 110, 111, 112, 113, 114, 115, 116, 117, 118, 119, 120, 121, 122, 48, 49, 50, 51, 52, 53, 54, 55, 56, 57]).data.toList.contains x = both5 x := all_bytes (p := fun x => (ByteArray.mk #[97, 98, 99, 100, 101, 102, 103, 104, 105, 106, 107, 108, 109, 110, 111, 112, 113, 114, 115, 116, 117, 118, 119, 120, 121, 122, 48, 49, 50, 51, 52, 53, 54, 55, 56, 57]).data.toList.contains x) (by decide +kernel) x
theorem sign5_has (x : UInt8) : (ByteArray.mk #[97, 98, 99, 100, 101, 102, 103, 104, 105, 106, 107, 108, 109, 110, 111, 112, 113, 114, 115, 116, 117, 118, 119, 120, 121, 122, 48, 49, 50, 51, 52, 53, 54, 55, 56, 57, 45, 46]).data.toList.contains x = sign5 x := all_bytes (p := fun x => (ByteArray.mk #[97, 98, 99, 100, 101, 102, 103, 104, 105, 106, 107, 108, 109, 110, 111, 112, 113, 114, 115, 116, 117, 118, 119, 120, 121, 122, 48, 49, 50, 51, 52, 53, 54, 55, 56, 57, 45, 46]).data.toList.contains x) (by decide +kernel) x
theorem hexa5_has (x : UInt8) : (ByteArray.mk #[48, 49, 50, 51, 52, 53, 54, 55, 56, 57, 97, 98, 99, 100, 101, 102]).data.toList.contains x = hexa5 x := all_bytes (p := fun x => (ByteArray.mk #[48, 49, 50, 51, 52, 53, 54, 55, 56, 57, 97, 98, 99, 100, 101, 102]).data.toList.contains x) (by decide +kernel) x

theorem ofsign_calls (s : ByteArray) (w : World) (hs : s.size ≤ 1000) :
  Calls Tryz.prog 122 #[.string s, .string ⟨#[97, 98, 99, 100, 101, 102, 103, 104, 105, 106, 107, 108, 109, 110, 111, 112, 113, 114, 115, 116, 117, 118, 119, 120, 121, 122, 48, 49, 50, 51, 52, 53, 54, 55, 56, 57, 45, 46]⟩] w fun e w' => e = .returned (.bool (s.data.toList.all sign5)) ∧ w' = w := by
 have h := of5_calls s ⟨#[97, 98, 99, 100, 101, 102, 103, 104, 105, 106, 107, 108, 109, 110, 111, 112, 113, 114, 115, 116, 117, 118, 119, 120, 121, 122, 48, 49, 50, 51, 52, 53, 54, 55, 56, 57, 45, 46]⟩ w hs (by decide)
 rwa [funext sign5_has] at h
theorem ofhexa_calls (s : ByteArray) (w : World) (hs : s.size ≤ 1000) :
  Calls Tryz.prog 122 #[.string s, .string ⟨#[48, 49, 50, 51, 52, 53, 54, 55, 56, 57, 97, 98, 99, 100, 101, 102]⟩] w fun e w' => e = .returned (.bool (s.data.toList.all hexa5)) ∧ w' = w := by
 have h := of5_calls s ⟨#[48, 49, 50, 51, 52, 53, 54, 55, 56, 57, 97, 98, 99, 100, 101, 102]⟩ w hs (by decide)
 rwa [funext hexa5_has] at h
theorem inlet_calls (c : UInt8) (w : World) :
  Calls Tryz.prog 115 #[.int .u8 c.toNat, .string ⟨#[97, 98, 99, 100, 101, 102, 103, 104, 105, 106, 107, 108, 109, 110, 111, 112, 113, 114, 115, 116, 117, 118, 119, 120, 121, 122]⟩] w fun e w' => e = .returned (.bool (letter5 c)) ∧ w' = w := by
 have h := in5_calls c ⟨#[97, 98, 99, 100, 101, 102, 103, 104, 105, 106, 107, 108, 109, 110, 111, 112, 113, 114, 115, 116, 117, 118, 119, 120, 121, 122]⟩ w (by decide)
 rwa [let5_has] at h
theorem inboth_calls (c : UInt8) (w : World) :
  Calls Tryz.prog 115 #[.int .u8 c.toNat, .string ⟨#[97, 98, 99, 100, 101, 102, 103, 104, 105, 106, 107, 108, 109, 110, 111, 112, 113, 114, 115, 116, 117, 118, 119, 120, 121, 122, 48, 49, 50, 51, 52, 53, 54, 55, 56, 57]⟩] w fun e w' => e = .returned (.bool (both5 c)) ∧ w' = w := by
 have h := in5_calls c ⟨#[97, 98, 99, 100, 101, 102, 103, 104, 105, 106, 107, 108, 109, 110, 111, 112, 113, 114, 115, 116, 117, 118, 119, 120, 121, 122, 48, 49, 50, 51, 52, 53, 54, 55, 56, 57]⟩ w (by decide)
 rwa [both5_has] at h

def Still5 (b : Bool) (w : World) (e : Ending) (w' : World) : Prop := e = .returned (.bool b) ∧ w' = w

set_option maxRecDepth 100000 in
theorem rprefix_calls (s : ByteArray) (w : World) (hs : s.size ≤ 1000) :
  Calls Tryz.prog 64 #[.string s] w (Still5 (pref5 s.data.toList) w) := by
 have HO := Lib.hid (ofsign_calls s w hs)
 have he : pref5 s.data.toList = (decide (s.size ≤ 12) && s.data.toList.all sign5) := by unfold pref5; rw [size_list]
 rw [he]
 clear he
 generalize s.data.toList.all sign5 = r at *
 generalize hn : s.size = n at *
 by_cases h12 : n ≤ 12
 ·
  rw [decide_eq_true h12, Bool.true_and]
  have z : (n : Int) ≤ 12 := by omega
  go_enter Tryz.func64, Tryz.ntmps64
  go_wp2_with fail
  with_reducible refine HO.out.mono ?_
  rintro e w1 ⟨rfl, rfl⟩
  go_wp2
  go_ret
  exact ⟨rfl, rfl⟩
 ·
  rw [decide_eq_false h12, Bool.false_and]
  have z : ¬ (n : Int) ≤ 12 := by omega
  go_enter Tryz.func64, Tryz.ntmps64
  go_wp2
  go_ret
  exact ⟨rfl, rfl⟩

set_option maxRecDepth 100000 in
theorem rhash_calls (s : ByteArray) (w : World) (hs : s.size ≤ 1000) :
  Calls Tryz.prog 89 #[.string s] w (Still5 (hash5 s.data.toList) w) := by
 have HO := Lib.hid (ofhexa_calls s w hs)
 have he : hash5 s.data.toList = (decide (1 ≤ s.size) && decide (s.size ≤ 12) && s.data.toList.all hexa5) := by unfold hash5; rw [size_list]
 rw [he]
 clear he
 generalize s.data.toList.all hexa5 = r at *
 generalize hn : s.size = n at *
 by_cases h1 : 1 ≤ n
 ·
  have z1 : (n : Int) ≥ 1 := by omega
  by_cases h12 : n ≤ 12
  ·
   rw [decide_eq_true h1, decide_eq_true h12, Bool.true_and, Bool.true_and]
   have z : (n : Int) ≤ 12 := by omega
   go_enter Tryz.func89, Tryz.ntmps89
   go_wp2_with fail
   with_reducible refine HO.out.mono ?_
   rintro e w1 ⟨rfl, rfl⟩
   go_wp2
   go_ret
   exact ⟨rfl, rfl⟩
  ·
   rw [decide_eq_false h12, Bool.and_false, Bool.false_and]
   have z : ¬ (n : Int) ≤ 12 := by omega
   go_enter Tryz.func89, Tryz.ntmps89
   go_wp2
   go_ret
   exact ⟨rfl, rfl⟩
 ·
  rw [decide_eq_false h1, Bool.false_and, Bool.false_and]
  have z : ¬ (n : Int) ≥ 1 := by omega
  go_enter Tryz.func89, Tryz.ntmps89
  go_wp2
  go_ret
  exact ⟨rfl, rfl⟩

set_option maxRecDepth 100000 in
theorem rname_calls (s : ByteArray) (w : World) (hs : s.size ≤ 1000) :
  Calls Tryz.prog 66 #[.string s] w (Still5 (name5 s.data.toList) w) := by
 have HO := Lib.hid (ofsign_calls s w hs)
 by_cases h1 : 1 ≤ s.size
 ·
  have z1 : (s.size : Int) ≥ 1 := by omega
  have hpos : 0 < s.size := by omega
  have he : name5 s.data.toList = (decide (s.size ≤ 12) && s.data.toList.all sign5 && letter5 s[0] && both5 s[s.size - 1]) := by
   unfold name5 pref5
   rw [head_at s hpos, last_at s hpos, size_list, decide_eq_true h1, Bool.true_and]
  rw [he]
  clear he
  have hb0 : ∀ (h : 0 < s.size), ((s[0]'h).toNat : Int) = bt5 s 0 := fun h => bt5_eq s 0 h
  have hb1 : ∀ (h : s.size - 1 < s.size), ((s[s.size - 1]'h).toNat : Int) = bt5 s (s.size - 1) := fun h => bt5_eq s _ h
  have HI0 := Lib.hid (hb0 hpos ▸ inlet_calls s[0] w)
  have HI1 := Lib.hid (hb1 (by omega) ▸ inboth_calls s[s.size - 1] w)
  generalize s.data.toList.all sign5 = r at *
  generalize letter5 s[0] = b0 at *
  generalize both5 s[s.size - 1] = b1 at *
  generalize bt5 s 0 = n0 at *
  generalize hn1 : bt5 s (s.size - 1) = n1 at *
  clear hn1
  have zz : (s.size : Int) - 1 = ((s.size - 1 : Nat) : Int) := by omega
  by_cases h12 : s.size ≤ 12
  ·
   rw [decide_eq_true h12, Bool.true_and]
   have z : (s.size : Int) ≤ 12 := by omega
   cases r with
   | false =>
    show Calls _ _ _ _ (Still5 false w)
    go_enter Tryz.func66, Tryz.ntmps66
    go_wp2_with fail
    with_reducible refine HO.out.mono ?_
    rintro e w1 ⟨rfl, rfl⟩
    go_wp2
    go_ret
    exact ⟨rfl, rfl⟩
   | true =>
    cases b0 with
    | false =>
     show Calls _ _ _ _ (Still5 false w)
     go_enter Tryz.func66, Tryz.ntmps66
     go_wp2_with fail
     with_reducible refine HO.out.mono ?_
     rintro e w1 ⟨rfl, rfl⟩
     go_wp2_with fail
     with_reducible refine HI0.out.mono ?_
     rintro e w1 ⟨rfl, rfl⟩
     go_wp2
     go_ret
     exact ⟨rfl, rfl⟩
    | true =>
     show Calls _ _ _ _ (Still5 b1 w)
     go_enter Tryz.func66, Tryz.ntmps66
     go_wp2_with fail
     with_reducible refine HO.out.mono ?_
     rintro e w1 ⟨rfl, rfl⟩
     go_wp2_with fail
     with_reducible refine HI0.out.mono ?_
     rintro e w1 ⟨rfl, rfl⟩
     go_wp2_with fail
     with_reducible refine HI1.out.mono ?_
     rintro e w1 ⟨rfl, rfl⟩
     go_wp2
     go_ret
     exact ⟨rfl, rfl⟩
  ·
   rw [decide_eq_false h12, Bool.false_and, Bool.false_and, Bool.false_and]
   have z : ¬ (s.size : Int) ≤ 12 := by omega
   go_enter Tryz.func66, Tryz.ntmps66
   go_wp2
   go_ret
   exact ⟨rfl, rfl⟩
 ·
  have he : name5 s.data.toList = false := by
   unfold name5
   rw [size_list, decide_eq_false h1]; rfl
  rw [he]
  have z : ¬ (s.size : Int) ≥ 1 := by omega
  go_enter Tryz.func66, Tryz.ntmps66
  go_wp2
  go_ret
  exact ⟨rfl, rfl⟩
end Go.Proofs.YthlgmkfofebbfaaGreatDoor


namespace Go.Proofs.YthlgmkfofebbfaaGreatDoor
open Go.RowKit Go.Maps

def pm10 (m : Who10) : List Value := [.string (tx10 m.1), .string (tx10 m.2)]
theorem pm10_length (M : List Who10) : (M.flatMap pm10).length = M.length * 2 := by
 induction M with
 | nil => rfl
 | cons x M ih => rw [List.flatMap_cons, List.length_append, ih]; simp [pm10]; omega
theorem pm10_at (M : List Who10) (j i : Nat) (hj : j < M.length) (hi : i < 2) : (M.flatMap pm10)[j * 2 + i]? = (pm10 M[j])[i]? := by
 induction M generalizing j with
 | nil => exact absurd hj (Nat.not_lt_zero _)
 | cons q M ih =>
  rw [List.flatMap_cons]
  cases j with
  | zero =>
   rw [List.getElem?_append_left (by simp [pm10]; omega)]
   simp
  | succ j =>
   rw [List.getElem?_append_right (by simp [pm10]; omega)]
   have := ih j (by simpa using hj)
   rw [show (j + 1) * 2 + i - (pm10 q).length = j * 2 + i by simp [pm10]; omega, this]
   simp
theorem infoMem10 : (Tryz.prog.info? 144).map (fun i => (i.zero, i.size, i.bytes)) = some (some (.agg #[.string ⟨#[]⟩, .string ⟨#[]⟩]), 2, 32) := by kernel_rfl
def NmR (w : World) (v : Value) (N : List (List UInt8)) : Prop := w.ownsRow 0 9 1 v N.length (N.map encStr)
def MbR (w : World) (v : Value) (M : List Who10) : Prop := w.ownsRow 0 144 2 v M.length (M.flatMap pm10)
theorem ownsRow_keeps10 {w w' : World} {b : Nat} {e size n : Nat} {v : Value} {xs : List Value} (h : w.ownsRow b e size v n xs) (hk : Keeps10 w w') (he : e ≠ 104) : w'.ownsRow b e size v n xs := by
 refine ⟨h.1, ?_⟩
 rcases h.2 with hn | ⟨g, cap, cur, e1, h0, hg, hr⟩
 ·
  exact .inl hn
 ·
  exact .inr ⟨g, cap, cur, e1, h0, hk g _ _ _ hg he, hr⟩
theorem own_up10 {w : World} {b : Nat} {e size n : Nat} {v : Value} {xs : List Value} (h : w.ownsRow 0 e size v n xs) (hb : ∀ j, v.ownBlock = some j → b ≤ j) : w.ownsRow b e size v n xs := by
 refine ⟨h.1, ?_⟩
 rcases h.2 with hn | ⟨g, cap, cur, e1, h0, hg, hr⟩
 ·
  exact .inl hn
 ·
  exact .inr ⟨g, cap, cur, e1, hb g (by rw [e1]; rfl), hg, hr⟩
section
variable {w w' : World} {v : Value} {N : List (List UInt8)} {M : List Who10}
theorem NmR.keeps (h : NmR w v N) (hk : Keeps10 w w') : NmR w' v N := ownsRow_keeps10 h hk (by decide)
theorem MbR.keeps (h : MbR w v M) (hk : Keeps10 w w') : MbR w' v M := ownsRow_keeps10 h hk (by decide)
theorem NmR.later (h : NmR w v N) (hb : Below w.heap.size w w') : NmR w' v N := ownsRow_below10 h hb
theorem MbR.later (h : MbR w v M) (hb : Below w.heap.size w w') : MbR w' v M := ownsRow_below10 h hb
theorem NmR.of {b : Nat} (h : w.ownsRow b 9 1 v N.length (N.map encStr)) : NmR w v N := ownsRow_low10 h (Nat.zero_le _)
theorem MbR.of {b : Nat} (h : w.ownsRow b 144 2 v M.length (M.flatMap pm10)) : MbR w v M := ownsRow_low10 h (Nat.zero_le _)
theorem NmR.nil (w : World) : NmR w (.slice none 0 0) [] := World.ownsRow_nil _ _ _ _
theorem MbR.nil (w : World) : MbR w (.slice none 0 0) [] := World.ownsRow_nil _ _ _ _
theorem NmR.at_ (h : NmR w v N) {k : Nat} (hk : k < N.length) : ∃ g cap, v = .slice (some ⟨g, 0, none⟩) N.length cap ∧ w.cell? ⟨g, k, none⟩ = some (.string (tx10 N[k])) :=
 row10_at h (Turns.refl (fun _ => False) w) (fun _ _ _ _ _ _ f => f) hk
theorem MbR.at_ (h : MbR w v M) {k : Nat} (hk : k < M.length) : ∃ g cap, v = .slice (some ⟨g, 0, none⟩) M.length cap ∧ w.cell? ⟨g, k * 2, none⟩ = some (.string (tx10 M[k].1)) ∧ w.cell? ⟨g, k * 2 + 1, none⟩ = some (.string (tx10 M[k].2)) := by
 rcases h.2 with ⟨rfl, hz⟩ | ⟨g, cap, cur, rfl, hb, hg, r1, r2, r3, r4⟩
 ·
  omega
 ·
  refine ⟨g, cap, rfl, ?_, ?_⟩
  ·
   have h2 : (List.take (M.length * 2) cur.toList)[k * 2]? = some (.string (tx10 M[k].1)) := by rw [r4]; have := pm10_at M k 0 hk (by decide); simpa [pm10] using this
   rw [List.getElem?_take, if_pos (by omega)] at h2
   simpa [World.cell?, hg] using h2
  ·
   have h2 : (List.take (M.length * 2) cur.toList)[k * 2 + 1]? = some (.string (tx10 M[k].2)) := by rw [r4]; have := pm10_at M k 1 hk (by decide); simpa [pm10] using this
   rw [List.getElem?_take, if_pos (by omega)] at h2
   simpa [World.cell?, hg] using h2
theorem NmR.shape (h : NmR w v N) : ∃ A c, v = .slice A N.length c := row10_shape h
theorem MbR.shape (h : MbR w v M) : ∃ A c, v = .slice A M.length c := by
 rcases h.2 with ⟨rfl, hz⟩ | ⟨g, cap, cur, rfl, _⟩
 ·
  exact ⟨none, 0, by rw [hz]⟩
 ·
  exact ⟨_, cap, rfl⟩
theorem NmR.src (h : NmR w v N) : Src Tryz.prog 1 28 v N.length (N.map encStr) w := by
 rcases h.2 with ⟨rfl, hz⟩ | ⟨g, cap, cur, rfl, hb, hg, r1, r2, r3, r4⟩
 ·
  have : N = [] := List.eq_nil_of_length_eq_zero hz
  subst this
  exact Src.ofNil w Tryz.underlying28 0
 ·
  refine Src.ofSlice w Tryz.underlying28 _ _ _ _ h.1 (fun j u hu => ?_) (fun u hu => by obtain ⟨x, _, rfl⟩ := List.mem_map.1 hu; rfl)
  have hj : j < N.length := by have := (List.getElem?_eq_some_iff.1 hu).1; simpa using this
  have h2 : (List.take (N.length * 1) cur.toList)[j]? = some u := by rw [r4]; exact hu
  rw [List.getElem?_take, if_pos (by omega)] at h2
  rw [Addr.add_lit, Nat.zero_add]
  simpa [World.cell?, hg] using h2
theorem MbR.src (h : MbR w v M) : Src Tryz.prog 2 111 v M.length (M.flatMap pm10) w := by
 rcases h.2 with ⟨rfl, hz⟩ | ⟨g, cap, cur, rfl, hb, hg, r1, r2, r3, r4⟩
 ·
  have : M = [] := List.eq_nil_of_length_eq_zero hz
  subst this
  exact Src.ofNil w Tryz.underlying111 0
 ·
  refine Src.ofSlice w Tryz.underlying111 _ _ _ _ h.1 (fun j u hu => ?_) (fun u hu => ?_)
  ·
   have hj : j < M.length * 2 := by have := (List.getElem?_eq_some_iff.1 hu).1; rwa [pm10_length] at this
   have h2 : (List.take (M.length * 2) cur.toList)[j]? = some u := by rw [r4]; exact hu
   rw [List.getElem?_take, if_pos (by omega)] at h2
   rw [Addr.add_lit, Nat.zero_add]
   simpa [World.cell?, hg] using h2
  ·
   obtain ⟨m, _, hm⟩ := List.mem_flatMap.1 hu
   simp only [pm10, List.mem_cons, List.not_mem_nil, or_false] at hm
   rcases hm with rfl | rfl <;> rfl
end
theorem tx10_ne {a : List UInt8} {s : ByteArray} (h : a ≠ s.data.toList) : ((tx10 a).toList == s.toList) = false := by
 rw [Lib.toList_data, Lib.toList_data, tx10_list]; simpa using h
theorem tx10_eq {a : List UInt8} {s : ByteArray} (h : a = s.data.toList) : tx10 a = s := by rw [h, tx10_back]
theorem lessb10 : ∀ a b : List UInt8, Op.bytesLess a b = bytesBefore a b
 | [], [] => by simp [Op.bytesLess, bytesBefore]
 | [], _ :: _ => by simp [Op.bytesLess, bytesBefore]
 | _ :: _, [] => by simp [Op.bytesLess, bytesBefore]
 | a :: r, b :: s => by simp [Op.bytesLess, bytesBefore, lessb10 r s]

set_option maxRecDepth 100000 in
set_option maxHeartbeats 1000000 in
theorem rhas10_calls (v : Value) (N : List (List UInt8)) (s : ByteArray) (w : World) (h12 : N.length ≤ 1000) (hu : NmR w v N) :
  Calls Tryz.prog 135 #[v, .string s] w (Tells5 (hasT N s.data.toList) w) := by
 obtain ⟨A, c, rfl⟩ := hu.shape
 have HA := Lib.hid hu
 clear hu
 obtain ⟨n, hn⟩ : ∃ n, n = N.length := ⟨_, rfl⟩
 rw [← hn] at HA h12 ⊢
 have HL := Lib.hid hn
 clear hn
 obtain ⟨r, hr⟩ : ∃ r, r = hasT N s.data.toList := ⟨_, rfl⟩
 rw [← hr]
 have HRS := Lib.hid hr
 clear hr
 go_enter Tryz.func135, Tryz.ntmps135
 go_wp2
 go_loopg [9] n (fun gg s9 wr => ∃ k : Nat, k ≤ n ∧ n - k ≤ gg ∧ s9 = .int .i64 k ∧ Hid (Below w.heap.size w wr) ∧ Hid (∀ j (h : j < N.length), j < k → N[j] ≠ s.data.toList))
 case atStart => exact ⟨0, Nat.zero_le _, by omega, rfl, Below.refl _ _, fun j _ hj => absurd hj (Nat.not_lt_zero _)⟩
 case round =>
  obtain ⟨k, hk, hg, rfl, HW, A0⟩ := hrel
  by_cases hlt : k < n
  ·
   have hltz : (k : Int) < (n : Int) := by omega
   have hkl : k < N.length := HL.out ▸ hlt
   obtain ⟨g, cx, e2, x0⟩ := (HA.out.later HW.out).at_ hkl
   injection e2 with e2 e2n e2c
   subst e2
   clear e2n e2c
   by_cases he : N[k] = s.data.toList
   ·
    have hs : tx10 N[k] = s := tx10_eq he
    have HGE : Hid (r = true) := HRS.out.trans (hasT_iff.2 (he ▸ List.getElem_mem hkl))
    have n2 : (s.toList == s.toList) = true := by simp
    rw [hs] at x0
    clear he hs A0
    go_wp2
    go_ret
    exact ⟨by rw [HGE.out]; rfl, HW.out⟩
   ·
    have n2 := tx10_ne he
    have n1 : ¬ (tx10 N[k]).toList = s.toList := by simpa using n2
    have HX : Hid (∀ j (h : j < N.length), j < k + 1 → N[j] ≠ s.data.toList) := fun j h hj => by
     by_cases e : j = k
     ·
      subst e; exact he
     ·
      exact A0.out j h (by omega)
    clear he A0
    generalize tx10 N[k] = nm at *
    go_wp2
    go_roundg (n - (k + 1))
    case measure => omega
    case rel => exact ⟨k + 1, by omega, by omega, by go_num, HW, HX⟩
  ·
   have hltz : ¬ (k : Int) < (n : Int) := by omega
   obtain rfl : k = n := by omega
   have HGE : Hid (r = false) := HRS.out.trans (hasT_false.2 fun hm => by
    obtain ⟨j, hj, e⟩ := List.getElem_of_mem hm
    exact A0.out j hj (by have := HL.out; omega) e)
   clear A0
   go_wp2
   go_ret
   exact ⟨by rw [HGE.out]; rfl, HW.out⟩

set_option maxRecDepth 100000 in
set_option maxHeartbeats 1000000 in
theorem samet10_calls (v1 v2 : Value) (N : List (List UInt8)) (w : World) (h1 : NmR w v1 N) (h2 : NmR w v2 N) (h12 : N.length ≤ 1000) : Calls Tryz.prog 21 #[v1, v2] w (Tells5 true w) := by
 obtain ⟨A1, c1, rfl⟩ := h1.shape
 obtain ⟨A2, c2, rfl⟩ := h2.shape
 have HC1 := Lib.hid h1
 have HC2 := Lib.hid h2
 clear h1 h2
 obtain ⟨n, hln⟩ : ∃ n, n = N.length := ⟨_, rfl⟩
 rw [← hln] at HC1 HC2 h12 ⊢
 have HL := Lib.hid hln
 clear hln
 go_enter Tryz.func21, Tryz.ntmps21
 go_wp2
 go_loopg [5, 13] n (fun gg _ s13 wr => ∃ k : Nat, k ≤ n ∧ n - k ≤ gg ∧ s13 = .int .i64 k ∧ Hid (Below w.heap.size w wr))
 case atStart => exact ⟨0, Nat.zero_le _, by omega, rfl, Below.refl _ _⟩
 case round =>
  obtain ⟨k, hk, hg, rfl, HW⟩ := hrel
  by_cases hlt : k < n
  ·
   have hltz : (k : Int) < (n : Int) := by omega
   have hkl : k < N.length := HL.out ▸ hlt
   obtain ⟨g1, d1, f1, e1⟩ := (HC1.out.later HW.out).at_ hkl
   obtain ⟨g2, d2, f2, e2⟩ := (HC2.out.later HW.out).at_ hkl
   injection f1 with f1 f1n f1c
   injection f2 with f2 f2n f2c
   subst f1 f2
   clear f1n f1c f2n f2c
   generalize tx10 N[k] = s at *
   have n1 : (s.toList != s.toList) = false := by simp
   have n2 : (s.toList == s.toList) = true := by simp
   go_wp2
   go_quiet (fail)
   go_wp2
   go_roundg (n - (k + 1))
   case measure => omega
   case rel => exact ⟨k + 1, by omega, by omega, by go_num, below_drewN HW.out _⟩
  ·
   have hltz : ¬ (k : Int) < (n : Int) := by omega
   obtain rfl : k = n := by omega
   go_wp2
   go_ret
   exact ⟨rfl, HW.out⟩

end Go.Proofs.YthlgmkfofebbfaaGreatDoor


namespace Go.Proofs.YthlgmkfofebbfaaGreatDoor
open Go.RowKit Go.Maps Go.Sort Go.Shelf

theorem datV_keys11 {V : Type} (e : V → DataW Unit) (L : RowV V) : strKeys (datV e L) = names10 L := by
 simp only [datV, strKeys, List.map_map]; rfl
section
variable {w0 w : World} {D P M G : Nat} {A : Acc11} {L : Row7} {S : Grs10} {k : Nat}
set_option maxRecDepth 100000 in
set_option maxHeartbeats 1000000 in
theorem nnames11_calls (ho : Own11 w0 w D P M G A L S) (hr : RiseV A) (hf : A.length ≤ 12) : Calls Tryz.prog 63 #[.pointer (some ⟨D, 0, none⟩)] w (Names10 (names10 A) w) := by
 have eg : ∀ args w, (callFunc 150 args).run Tryz.prog w = .ok (.enter 150 args) w := enters_of Tryz.func150 (by kernel_rfl) rfl
 have bl : Below w.heap.size w (w.alloc (.cells #[.map (some P)] 64)) := below_alloc (Below.refl _ _) _
 have cS : ∃ S : List (List UInt8) → Prop, (∀ ss, S ss → ss.Perm (names10 A)) ∧ SeqGives Fence.wide 2 Tryz.prog 150 #[.pointer (some ⟨w.heap.size, 0, none⟩)] encStr S A.length (w.alloc (.cells #[.map (some P)] 64)) := by
  have ho' := ho
  obtain ⟨p, q, LM, pg, T, hd, _⟩ := ho'
  have hown := World.ownsMap.alloc hd.acc (.cells #[.map (some P)] 64)
  have h := AnyZ.keys_gives (ρ := Tryz.keys11_ren) { Tryz.keys11 with } Fence.wide 2 trivial rfl (by omega) w.heap.size P _ (datV ea11 A) _ (by simp) (by simp) hown
  rw [datV_size] at h
  exact ⟨_, fun ss h => by rw [datV_keys11] at h; exact h, h⟩
 obtain ⟨Ss, hS, hseq⟩ := cS
 have HK : Hid (Calls Tryz.prog 120 #[.map (some P)] w fun e w' => e = .returned (.func (.func 150) #[] #[.pointer (some ⟨w.heap.size, 0, none⟩)]) ∧ w' = w.alloc (.cells #[.map (some P)] 64)) :=
  (callsIn_wide (n := 4)).1 (AnyZ.keys_in Tryz.keys11 Fence.wide 4 trivial rfl (some P) w)
 have HSF := Lib.hid (sortedf7_calls _ _ Ss A.length _ eg (by omega) (fun ss h => by rw [(hS ss h).length_eq, names10_length]; omega) hseq)
 have HSS : Hid (∀ ss, Ss ss → ss.length = A.length ∧ ss.mergeSort (fun x y => !(ltOf Lib.compareBytes) y x) = names10 A) := fun ss h => by
  have hp := hS ss h
  exact ⟨by rw [hp.length_eq, names10_length], sort_rise hr.names hp _ (fun x y => by rw [lt7])⟩
 have hc := ho.c0
 have BL := Lib.hid bl
 clear hseq hS ho bl
 go_enter Tryz.func63, Tryz.ntmps63
 go_wp2_with fail
 with_reducible refine HK.out.mono ?_
 rintro e w1 ⟨rfl, rfl⟩
 go_wp2_with fail
 with_reducible refine HSF.out.mono ?_
 rintro e w2 ⟨v, ss, rfl, hss, hrow, hnil, hb⟩
 obtain ⟨hl, hm⟩ := HSS.out ss hss
 have HF : Hid (Names10 (names10 A) w (.returned v) w2) := by
  rw [hl, hm] at hrow
  refine ⟨v, rfl, ?_, below_next BL.out hb⟩
  rw [names10_length]
  exact ownsRow_low10 hrow (by simp)
 clear hss hrow hnil hb hl hm HSS HSF HK hc BL
 go_wp2
 go_ret
 exact HF.out

theorem zerou11 (w : World) : (zeroValue 37).run Tryz.prog w = .ok (.agg #[.string ⟨#[]⟩, .string ⟨#[]⟩, .string ⟨#[]⟩, .bool false, .slice none 0 0]) w := by kernel_rfl
def Told11 (A : Acc11) (L : Row7) (S : Grs10) (n : ByteArray) (w W : World) (v : Value) : Prop :=
 ∃ ga gc, v = .agg #[.string n, .string (tx10 (hasA A n.data.toList)), .string (tx10 (getE L n.data.toList)), .bool (disA A n.data.toList), .slice ga (of10 S n.data.toList).length gc] ∧ W.ownsRow w.heap.size 9 1 (.slice ga (of10 S n.data.toList).length gc) (of10 S n.data.toList).length ((of10 S n.data.toList).map encStr)
def Tld11 (b : Nat) (n s m : ByteArray) (d : Bool) (gs : List (List UInt8)) (w W : World) : Prop :=
 ∃ ga gc, Blk5 W b (.string n) (.string s) (.string m) (.bool d) (.slice ga gs.length gc) ∧ W.ownsRow w.heap.size 9 1 (.slice ga gs.length gc) gs.length (gs.map encStr) ∧ Below w.heap.size w W
def YTl11 (D G b5 : Nat) (n s m : ByteArray) (d : Bool) (gs : List (List UInt8)) (w : World) : Nat → Value → World → Prop
 | 0, v, _ => v = .string n
 | 1, v, _ => v = .pointer (some ⟨b5, 0, none⟩)
 | 2, v, _ => v = .string s
 | 3, v, _ => v = .string m
 | 4, v, _ => v = .pointer (some ⟨b5, 1, none⟩)
 | 5, v, _ => v = .bool d
 | 8, v, _ => v = .pointer (some ⟨D, 2, none⟩)
 | 9, v, _ => v = .pointer (some ⟨G, 0, none⟩)
 | 10, v, _ => v = .string n
 | 11, v, W => ∃ ga gc, v = .slice ga gs.length gc ∧ W.ownsRow w.heap.size 9 1 (.slice ga gs.length gc) gs.length (gs.map encStr)
 | 12, v, W => ∃ ga gc, v = .agg #[.string n, .string s, .string m, .bool d, .slice ga gs.length gc] ∧ W.ownsRow w.heap.size 9 1 (.slice ga gs.length gc) gs.length (gs.map encStr)
 | _, v, _ => v = .pointer (some ⟨D, 0, none⟩)
theorem ownsRow_below11 {w w' : World} {b : Nat} {e size n : Nat} {v : Value} {xs : List Value} (h : w.ownsRow b e size v n xs) (hb : Below w.heap.size w w') : w'.ownsRow b e size v n xs := by
 refine ⟨h.1, ?_⟩
 rcases h.2 with hn | ⟨g, cap, cur, e1, h0, hg, hr⟩
 ·
  exact .inl hn
 ·
  exact .inr ⟨g, cap, cur, e1, h0, (hb.block g (Array.getElem?_eq_some_iff.1 hg).1).trans hg, hr⟩
theorem YTl11_keep {D G b5 : Nat} {n s m : ByteArray} {d : Bool} {gs : List (List UInt8)} {w W W' : World} (hb : Below W.heap.size W W') (j : Nat) (u : Value) (h : YTl11 D G b5 n s m d gs w j u W) : YTl11 D G b5 n s m d gs w j u W' := by
 match j, h with
 | 0, h => exact h
 | 1, h => exact h
 | 2, h => exact h
 | 3, h => exact h
 | 4, h => exact h
 | 5, h => exact h
 | 6, h => exact h
 | 7, h => exact h
 | 8, h => exact h
 | 9, h => exact h
 | 10, h => exact h
 | 11, h =>
  obtain ⟨ga, gc, e, hr⟩ := h
  exact ⟨ga, gc, e, ownsRow_below11 hr hb⟩
 | 12, h =>
  obtain ⟨ga, gc, e, hr⟩ := h
  exact ⟨ga, gc, e, ownsRow_below11 hr hb⟩
 | _ + 13, h => exact h
set_option maxRecDepth 100000 in
set_option maxHeartbeats 2000000 in
theorem tell11_calls (n : ByteArray) (ho : Own11 w0 w D P M G A L S) (hk : Good10 S k) (hn : n.size ≤ 9223372036854775807) :
  Calls Tryz.prog 54 #[.pointer (some ⟨D, 0, none⟩), .string n] w fun e w' => ∃ v, e = .returned v ∧ Told11 A L S n w w' v ∧ Below w.heap.size w w' := by
 have HO := Lib.hid ho
 have hz := zeroa11
 have hzu := zerou11
 have HLK : Hid (∀ W, Below w.heap.size w W → (Instr.lookup 64 (.map (some P)) (.string n) false).run Tryz.prog W = .ok (.agg #[.string (tx10 (hasA A n.data.toList)), .bool (disA A n.data.toList)]) W) := fun W hb => (ho.later hb).look1 n hn
 have HOF : Hid (∀ W, Below w.heap.size w W → Calls Tryz.prog 110 #[.pointer (some ⟨M, 0, none⟩), .string n] W fun e w' => e = .returned (.tuple #[.string (tx10 (getE L n.data.toList)), .bool (hasE L n.data.toList)]) ∧ w' = W) := fun W hb => (ho.later hb).mof n hn
 have HGO : Hid (∀ W, Below w.heap.size w W → Calls Tryz.prog 111 #[.pointer (some ⟨G, 0, none⟩), .string n] W (Names10 (of10 S n.data.toList) W)) := fun W hb => (ho.later hb).gof hk n hn
 unfold Told11
 clear ho hk hn
 generalize tx10 (hasA A n.data.toList) = ss at *
 generalize disA A n.data.toList = dd at *
 generalize tx10 (getE L n.data.toList) = mm at *
 generalize hasE L n.data.toList = hm at *
 generalize of10 S n.data.toList = gs at *
 have hb1 : Below w.heap.size w (w.alloc (.cells #[.string ⟨#[]⟩, .string ⟨#[]⟩, .string ⟨#[]⟩, .bool false, .slice none 0 0] 37)) := below_alloc (Below.refl _ _) _
 have hb2 : Below w.heap.size w ((w.alloc (.cells #[.string ⟨#[]⟩, .string ⟨#[]⟩, .string ⟨#[]⟩, .bool false, .slice none 0 0] 37)).alloc (.cells #[.string ss, .bool dd] 97)) := below_alloc hb1 _
 have hz1 : Blk5 (w.alloc (.cells #[.string ⟨#[]⟩, .string ⟨#[]⟩, .string ⟨#[]⟩, .bool false, .slice none 0 0] 37)) w.heap.size (.string ⟨#[]⟩) (.string ⟨#[]⟩) (.string ⟨#[]⟩) (.bool false) (.slice none 0 0) := heap_alloc_new w _
 have HZ : Hid (Blk5 ((w.alloc (.cells #[.string ⟨#[]⟩, .string ⟨#[]⟩, .string ⟨#[]⟩, .bool false, .slice none 0 0] 37)).alloc (.cells #[.string ss, .bool dd] 97)) w.heap.size (.string ⟨#[]⟩) (.string ⟨#[]⟩) (.string ⟨#[]⟩) (.bool false) (.slice none 0 0)) := (Below.heap_alloc _ _ _ (by simp)).trans hz1
 have HA := Lib.hid (ac11_new (w.alloc (.cells #[.string ⟨#[]⟩, .string ⟨#[]⟩, .string ⟨#[]⟩, .bool false, .slice none 0 0] 37)) ss dd)
 have c0 := (HO.out.later hb1).c0
 have c1 := (HO.out.later hb2).c1
 have hl := HLK.out _ hb1
 have HOF1 := Lib.hid (HOF.out _ hb2)
 have HB2 := Lib.hid hb2
 clear hb1 hb2 hz1 HOF
 go_enter Tryz.func54, Tryz.ntmps54
 go_wp2_with fail
 with_reducible refine HOF1.out.mono ?_
 rintro e w2 ⟨rfl, hw2⟩
 rw [← hw2] at HZ HA HB2
 have hsz : (w.alloc (.cells #[.string ⟨#[]⟩, .string ⟨#[]⟩, .string ⟨#[]⟩, .bool false, .slice none 0 0] 37)).heap.size = w.heap.size + 1 := by simp
 rw [hsz] at HA
 have HLT := Lib.hid (HA.out.lt)
 clear hw2 hl HOF1 c0 c1 HLK hsz
 go_wp2_with fail
 have HLT2 : Hid (w.heap.size < w2.heap.size) := by have := HLT.out; show _ < _; omega
 have HSO : Hid (∀ W, Below w2.heap.size w2 W → ∀ ga gc, W.ownsRow w.heap.size 9 1 (.slice ga gs.length gc) gs.length (gs.map encStr) → Tld11 w.heap.size n ss mm dd gs w (set5 W w.heap.size (.string n) (.string ss) (.string mm) (.bool dd) (.slice ga gs.length gc))) := fun W hb ga gc ho => by
  have hz : Blk5 W w.heap.size (.string ⟨#[]⟩) (.string ⟨#[]⟩) (.string ⟨#[]⟩) (.bool false) (.slice none 0 0) := (hb.block _ HLT2.out).trans HZ.out
  have ht : Turns (fun i => i = w.heap.size) W (set5 W w.heap.size (.string n) (.string ss) (.string mm) (.bool dd) (.slice ga gs.length gc)) := turns_set5 (Turns.refl (fun i => i = w.heap.size) W) w.heap.size (fun _ => rfl) _ _ _ _ _
  have hbw := below_next HB2.out hb
  refine ⟨ga, gc, hz.set5 _ _ _ _ _, ?_, hbw.trans (ht.below_at hbw.size (fun i e => by omega))⟩
  refine ⟨ho.1, ?_⟩
  rcases ho.2 with hn | ⟨g, cap, cur, e1, h0, hg, hr⟩
  ·
   exact .inl hn
  ·
   have hne : g ≠ w.heap.size := fun e => by
    subst e
    rw [show W.heap[w.heap.size]? = _ from hz] at hg
    injection hg with hg
    injection hg with _ h
    exact absurd h (by decide)
   exact .inr ⟨g, cap, cur, e1, h0, (ht.block g (Array.getElem?_eq_some_iff.1 hg).1 hne).trans hg, hr⟩
 refine wp_region_last (by kernel_rfl) 13 (fun W => Below w2.heap.size w2 W) (fun W => Tld11 w.heap.size n ss mm dd gs w W) (YTl11 D G (w.heap.size + 1) n ss mm dd gs w) (fun _ => True) ?F ?hF (by kernel_rfl) (by kernel_rfl) (by kernel_rfl) (by kernel_rfl) (by decide) (below_drew (Below.refl _ _)) ?step ?fin
 case hF =>
  intro x
  simp only [List.map_cons, List.map_nil, putL, Act.put, List.setIfInBounds_toArray, List.set_cons_zero, List.set_cons_succ, Nat.zero_add, Nat.reduceAdd]
  exact rfl
 case step =>
  refine ⟨?_, ?_, ?_, ?_, ?_, ?_, ?_, ?_, ?_, ?_, ?_, ?_, ?_, ?_, trivial⟩
  ·
   intro x W
   refine ⟨fun _ hW hdep K hK => ?_, (fun h => absurd h (by decide)), (fun h => absurd h (by decide))⟩
   clear hdep
   go_simp
   exact hK _ _ rfl hW (fun _ _ h => h)
  ·
   intro x W
   refine ⟨fun _ hW hdep K hK => ?_, (fun h => absurd h (by decide)), (fun h => absurd h (by decide))⟩
   clear hdep
   go_simp
   exact hK _ _ rfl hW (fun _ _ h => h)
  ·
   intro x W
   refine ⟨fun _ hW hdep K hK => ?_, (fun h => absurd h (by decide)), (fun h => absurd h (by decide))⟩
   have h1 : x 1 = _ := hdep 1 rfl
   have hx := HA.out.later hW
   have c0 := hx.c0
   clear hdep
   simp only [h1] at hK
   go_simp
   exact hK _ _ rfl hW (fun _ _ h => h)
  ·
   intro x W
   refine ⟨fun _ hW hdep K hK => ?_, (fun h => absurd h (by decide)), (fun h => absurd h (by decide))⟩
   clear hdep
   go_simp
   exact hK _ _ rfl hW (fun _ _ h => h)
  ·
   intro x W
   refine ⟨fun _ hW hdep K hK => ?_, (fun h => absurd h (by decide)), (fun h => absurd h (by decide))⟩
   clear hdep
   go_simp
   exact hK _ _ rfl hW (fun _ _ h => h)
  ·
   intro x W
   refine ⟨fun _ hW hdep K hK => ?_, (fun h => absurd h (by decide)), (fun h => absurd h (by decide))⟩
   have h4 : x 4 = _ := hdep 4 rfl
   have hx := HA.out.later hW
   have c1 := hx.c1
   clear hdep
   simp only [h4] at hK
   go_simp
   exact hK _ _ rfl hW (fun _ _ h => h)
  ·
   intro x W
   refine ⟨fun _ hW hdep K hK => ?_, (fun h => absurd h (by decide)), (fun h => absurd h (by decide))⟩
   clear hdep
   go_simp
   exact hK _ _ rfl hW (fun _ _ h => h)
  ·
   intro x W
   refine ⟨fun _ hW hdep K hK => ?_, (fun h => absurd h (by decide)), (fun h => absurd h (by decide))⟩
   have h6 : x 6 = _ := hdep 6 rfl
   clear hdep
   simp only [h6] at hK
   go_simp
   exact hK _ _ rfl hW (fun _ _ h => h)
  ·
   intro x W
   refine ⟨fun _ hW hdep K hK => ?_, (fun h => absurd h (by decide)), (fun h => absurd h (by decide))⟩
   have h7 : x 7 = _ := hdep 7 rfl
   clear hdep
   simp only [h7] at hK
   go_simp
   exact hK _ _ rfl hW (fun _ _ h => h)
  ·
   intro x W
   refine ⟨fun _ hW hdep K hK => ?_, (fun h => absurd h (by decide)), (fun h => absurd h (by decide))⟩
   have h8 : x 8 = _ := hdep 8 rfl
   have c := (HO.out.later (below_next HB2.out hW)).c2
   clear hdep
   simp only [h8] at hK
   go_simp
   exact hK _ _ rfl hW (fun _ _ h => h)
  ·
   intro x W
   refine ⟨fun _ hW hdep K hK => ?_, (fun h => absurd h (by decide)), (fun h => absurd h (by decide))⟩
   clear hdep
   go_simp
   exact hK _ _ rfl hW (fun _ _ h => h)
  ·
   intro x W
   refine ⟨fun _ hW hdep K hK => ?_, (fun h => absurd h (by decide)), (fun h => absurd h (by decide))⟩
   have h9 : x 9 = _ := hdep 9 rfl
   have h10 : x 10 = _ := hdep 10 rfl
   have hc := HGO.out W (below_next HB2.out hW)
   clear hdep
   simp only [h9, h10] at hK
   go_simp
   refine hc.mono ?_
   rintro e W' ⟨v, rfl, hr, hb⟩
   obtain ⟨ga, gc, rfl⟩ := row10_shape hr
   exact hK _ _ ⟨ga, gc, rfl, ownsRow_low10 hr (below_next HB2.out hW).size⟩ (below_next hW hb) (fun j u h => YTl11_keep hb j u h)
  ·
   intro x W
   refine ⟨fun _ hW hdep K hK => ?_, (fun h => absurd h (by decide)), (fun h => absurd h (by decide))⟩
   have h0 : x 0 = _ := hdep 0 rfl
   have h2 : x 2 = _ := hdep 2 rfl
   have h3 : x 3 = _ := hdep 3 rfl
   have h5 : x 5 = _ := hdep 5 rfl
   have hA : ∃ ga gc, x 11 = .slice ga gs.length gc ∧ W.ownsRow w.heap.size 9 1 (.slice ga gs.length gc) gs.length (gs.map encStr) := hdep 11 rfl
   obtain ⟨ga, gc, h11, hr⟩ := hA
   simp only [h11] at hK
   clear hdep
   simp only [h0, h2, h3, h5] at hK
   go_simp
   exact hK _ _ ⟨ga, gc, rfl, hr⟩ hW (fun _ _ h => h)
  ·
   intro x W
   refine ⟨(fun h => absurd h (by decide)), fun _ hW hdep K hK => ?_, (fun h => absurd h (by decide))⟩
   have hA : ∃ ga gc, x 12 = .agg #[.string n, .string ss, .string mm, .bool dd, .slice ga gs.length gc] ∧ W.ownsRow w.heap.size 9 1 (.slice ga gs.length gc) gs.length (gs.map encStr) := hdep 12 rfl
   obtain ⟨ga, gc, h12, hr⟩ := hA
   simp only [h12] at hK
   have hz : Blk5 W w.heap.size (.string ⟨#[]⟩) (.string ⟨#[]⟩) (.string ⟨#[]⟩) (.bool false) (.slice none 0 0) := (hW.block _ HLT2.out).trans HZ.out
   have f1 := hz.free
   have q0 := HSO.out W hW ga gc hr
   have r0 : _ = some (.string ⟨#[]⟩ : Value) := hz.at_ 0
   have r1 : _ = some (.string ⟨#[]⟩ : Value) := hz.at_ 1
   have r2 : _ = some (.string ⟨#[]⟩ : Value) := hz.at_ 2
   have r3 : _ = some (.bool false : Value) := hz.at_ 3
   have r4 : _ = some (.slice none 0 0 : Value) := hz.at_ 4
   clear hz
   clear hdep
   go_simp
   exact hK undef _ trivial q0
 case fin =>
  intro x W hW _
  obtain ⟨ga, gc, hz, hr, hb⟩ := hW
  have HR := Lib.hid hr
  have HBB := Lib.hid hb
  have q0 : _ = some (.string n : Value) := hz.at_ 0
  have q1 : _ = some (.string ss : Value) := hz.at_ 1
  have q2 : _ = some (.string mm : Value) := hz.at_ 2
  have q3 : _ = some (.bool dd : Value) := hz.at_ 3
  have q4 : _ = some (.slice ga gs.length gc : Value) := hz.at_ 4
  clear hr hb hz HSO HZ HA HB2 HGO HO HLT HLT2
  go_wp2_with fail
  refine bodyPost_ret (v := .agg #[.string n, .string ss, .string mm, .bool dd, .slice ga gs.length gc]) ?_ rfl ⟨_, rfl, ⟨ga, gc, rfl, HR.out⟩, HBB.out⟩
  simp [results, Tryz.results54, go_sem, q0, q1, q2, q3, q4]
end

set_option maxRecDepth 100000 in
theorem nnew11_calls (w : World) : Calls Tryz.prog 9 #[] w fun e w' => ∃ D P M G, e = .returned (.pointer (some ⟨D, 0, none⟩)) ∧ Own11 w w' D P M G [] [] [] := by
 have HM : Hid (∀ W, Calls Tryz.prog 30 #[] W fun e w' => e = .returned (.pointer (some ⟨W.heap.size, 0, none⟩)) ∧ w' = W.alloc (.cells #[.map none, .map none] 101)) := fun W => new9_calls W
 have HG : Hid (∀ W, Calls Tryz.prog 31 #[] W fun e w' => e = .returned (.pointer (some ⟨W.heap.size, 0, none⟩)) ∧ w' = W.alloc (.cells #[.map none] 104)) := fun W => new10_calls W
 have hmm := @run_makeMap Tryz.prog
 have a1 := accs11_made w
 have hb1 := below_alloc (Below.refl w.heap.size w) (.map #[] 0)
 have s1 : (w.alloc (.map #[] 0)).heap.size = w.heap.size + 1 := by simp
 generalize hw1 : w.alloc (.map #[] 0) = w1 at *
 have a2 := idx9_new w1
 have hb2 := below_alloc (Below.refl w1.heap.size w1) (.cells #[.map none, .map none] 101)
 have s2 : (w1.alloc (.cells #[.map none, .map none] 101)).heap.size = w1.heap.size + 1 := by simp
 generalize hw2 : w1.alloc (.cells #[.map none, .map none] 101) = w2 at *
 have a3 := grp10_new w2
 have hb3 := below_alloc (Below.refl w2.heap.size w2) (.cells #[.map none] 104)
 have s3 : (w2.alloc (.cells #[.map none] 104)).heap.size = w2.heap.size + 1 := by simp
 generalize hw3 : w2.alloc (.cells #[.map none] 104) = w3 at *
 have hb4 := below_alloc (Below.refl w3.heap.size w3) (.cells #[.map (some w.heap.size), .pointer (some ⟨w1.heap.size, 0, none⟩), .pointer (some ⟨w2.heap.size, 0, none⟩)] 70)
 have a4 := heap_alloc_new w3 (.cells #[.map (some w.heap.size), .pointer (some ⟨w1.heap.size, 0, none⟩), .pointer (some ⟨w2.heap.size, 0, none⟩)] 70)
 have HF : Hid (Own11 w (w3.alloc (.cells #[.map (some w.heap.size), .pointer (some ⟨w1.heap.size, 0, none⟩), .pointer (some ⟨w2.heap.size, 0, none⟩)] 70)) w3.heap.size w.heap.size w1.heap.size w2.heap.size [] [] []) := by
  have hb24 := below_next (below_next hb2 hb3) hb4
  have hb34 := below_next hb3 hb4
  refine ⟨none, none, [], none, [], ⟨a4, a1.kept (hb24.block _ (by omega)), a2.later hb34, a3.later hb4, ?_, ?_, ?_⟩, rfl, ?_, below_next (below_next (below_next hb1 hb2) hb3) hb4⟩
  ·
   rintro i (rfl | h | h)
   ·
    omega
   ·
    cases h
   ·
    cases h
  ·
   rintro i (rfl | h | ⟨x, h, _⟩)
   ·
    omega
   ·
    cases h
   ·
    cases h
  ·
   rintro i (rfl | h | h) (h' | h' | ⟨x, h', _⟩)
   ·
    omega
   all_goals first | cases h | cases h'
  ·
   rintro i (rfl | rfl | h | h)
   ·
    omega
   ·
    omega
   ·
    rcases h with rfl | h | h
    ·
     omega
    ·
     cases h
    ·
     cases h
   ·
    rcases h with rfl | h | ⟨x, h, _⟩
    ·
     omega
    ·
     cases h
    ·
     cases h
 clear a1 a2 a3 a4 hb1 hb2 hb3 hb4 s1 s2 s3
 go_enter Tryz.func9, Tryz.ntmps9
 go_wp2_with fail
 with_reducible refine (HM.out _).mono ?_
 rintro e u2 ⟨rfl, hu2⟩
 go_wp2_with fail
 with_reducible refine (HG.out _).mono ?_
 rintro e u3 ⟨rfl, hu3⟩
 try rw [hw1] at hu2
 try rw [hw2] at hu2
 try subst hu2
 try rw [hw3] at hu3
 subst hu3
 clear HM HG hmm hw1 hw2 hw3
 go_wp2
 go_ret
 exact ⟨_, _, _, _, rfl, HF.out⟩
end Go.Proofs.YthlgmkfofebbfaaGreatDoor


namespace Go.Proofs.YthlgmkfofebbfaaGreatDoor
open Go.RowKit Go.Maps

def YRn11 (D M : Nat) (o n : ByteArray) : Nat → Value → Prop
 | 2, v => v = .pointer (some ⟨D, 1, none⟩)
 | 3, v => v = .pointer (some ⟨M, 0, none⟩)
 | 4, v => v = .string o
 | 5, v => v = .string n
 | 6, v => v = .string n
 | _, v => v = .pointer (some ⟨D, 0, none⟩)
def YRnW11 (D M : Nat) (o n : ByteArray) (j : Nat) (v : Value) (_ : World) : Prop := YRn11 D M o n j v
section
variable {w0 w : World} {D P M G : Nat} {A : Acc11} {L : Row7} {S : Grs10} {k : Nat}
set_option maxRecDepth 100000 in
set_option maxHeartbeats 1000000 in
theorem rename11_calls (o n : ByteArray) (ho : Own11 w0 w D P M G A L S) (hg : Good11 A L S k) (h9 : k ≤ 900) (hz : o.size ≤ 9223372036854775807) (hn : n.size ≤ 9223372036854775807) :
  Calls Tryz.prog 29 #[.pointer (some ⟨D, 0, none⟩), .string o, .string n] w fun e w' => e = .returned (.int .i64 (rnE11 A o.data.toList n.data.toList)) ∧ Goes11 w0 w D P M G (rnA11 A o.data.toList n.data.toList) (rnL11 A L o.data.toList n.data.toList) (rnS11 A S o.data.toList n.data.toList) w' := by
 have HN : Hid (∀ W, Below w.heap.size w W → Calls Tryz.prog 52 #[.string o] W fun e w' => e = .returned (.int .i64 (err5 (name5 o.data.toList) 10)) ∧ Below W.heap.size W w') := fun W hb => Name_calls o W hz
 have HH : Hid (∀ W, Below w.heap.size w W → Calls Tryz.prog 52 #[.string n] W fun e w' => e = .returned (.int .i64 (err5 (name5 n.data.toList) 10)) ∧ Below W.heap.size W w') := fun W hb => Name_calls n W hn
 have HI : Hid (∀ W, Below w.heap.size w W → Calls Tryz.prog 53 #[.pointer (some ⟨D, 0, none⟩), .string o] W fun e w' => e = .returned (.int .i64 (err5 (hasV A o.data.toList) 8)) ∧ Below W.heap.size W w') := fun W hb => isThere11_calls o (ho.later hb) hz
 have HL : Hid (∀ W, Below w.heap.size w W → Calls Tryz.prog 80 #[.pointer (some ⟨D, 0, none⟩), .string n] W fun e w' => e = .returned (.int .i64 (err5 (!hasV A n.data.toList) 9)) ∧ Below W.heap.size W w') := fun W hb => isFree11_calls n (ho.later hb) hn
 have HFS : Hid (∀ W : World, Calls Tryz.prog 51 #[.slice (some ⟨W.heap.size, 0, none⟩) 4 4] (W.alloc (.cells #[.int .i64 (err5 (name5 o.data.toList) 10), .int .i64 (err5 (name5 n.data.toList) 10), .int .i64 (err5 (hasV A o.data.toList) 8), .int .i64 (err5 (!hasV A n.data.toList) 9)] 38)) fun e w' => e = .returned (.int .i64 (rnE11 A o.data.toList n.data.toList)) ∧ w' = W.alloc (.cells #[.int .i64 (err5 (name5 o.data.toList) 10), .int .i64 (err5 (name5 n.data.toList) 10), .int .i64 (err5 (hasV A o.data.toList) 8), .int .i64 (err5 (!hasV A n.data.toList) 9)] 38)) := fun W => by
  have := firsts11 W [err5 (name5 o.data.toList) 10, err5 (name5 n.data.toList) 10, err5 (hasV A o.data.toList) 8, err5 (!hasV A n.data.toList) 9] 38 (by simp)
  rw [first11_rn] at this
  exact this
 have HO := Lib.hid ho
 have HPT : Hid (rnE11 A o.data.toList n.data.toList = 0 → ∀ W, Below w.heap.size w W → Calls Tryz.prog 81 #[.pointer (some ⟨D, 0, none⟩), .string n, .agg #[.string (tx10 (hasA A o.data.toList)), .bool (disA A o.data.toList)]] W fun e w' => e = .returned (.tuple #[]) ∧ Goes11 w0 w D P M G (putV A n.data.toList (hasA A o.data.toList, disA A o.data.toList)) L S w') := fun e W hb => by
  obtain ⟨h1, h2, h3, h4⟩ := rnF_zero e
  have := put11_calls n (tx10 (hasA A o.data.toList)) (disA A o.data.toList) (ho.later hb) (by have := hg.few; omega) (name11_size h2) (by rw [tx10_size]; exact hash11_len (hasA_hash hg h3))
  rw [tx10_list] at this
  exact this.mono fun e w' ⟨he, hgo⟩ => ⟨he, hgo.ahead hb⟩
 have HK : Hid (∀ W, Below w.heap.size w W → (Instr.lookup 64 (.map (some P)) (.string o) false).run Tryz.prog W = .ok (.agg #[.string (tx10 (hasA A o.data.toList)), .bool (disA A o.data.toList)]) W) := fun W hb => (ho.later hb).look1 o hz
 have HDR : Hid (∀ W ty A1, Own11 w0 W D P M G A1 L S → ∃ w', (Builtin.delete_ #[64, 9] ty #[.map (some P), .string o]).run Tryz.prog W = .ok (.tuple #[]) w' ∧ Goes11 w0 W D P M G (delV A1 o.data.toList) L S w') := fun W ty A1 h => h.drop o hz ty
 have HMR : Hid (∀ W A1 L1 S1, Own11 w0 W D P M G A1 L1 S1 → Calls Tryz.prog 84 #[.pointer (some ⟨M, 0, none⟩), .string o, .string n] W fun e w' => e = .returned (.int .i64 (reE9 L1 o.data.toList n.data.toList)) ∧ Goes11 w0 W D P M G A1 (reL9 L1 o.data.toList n.data.toList) S1 w') := fun W A1 L1 S1 h => h.mrename o n hz hn
 have HGR : Hid (∀ W A1 L1, Own11 w0 W D P M G A1 L1 S → Calls Tryz.prog 86 #[.pointer (some ⟨G, 0, none⟩), .string o, .string n] W fun e w' => e = .returned (.int .i64 (reE10 S o.data.toList n.data.toList)) ∧ Goes11 w0 W D P M G A1 L1 (reS10 S o.data.toList n.data.toList) w') := fun W A1 L1 h => h.grename hg.grp h9 o n hz hn
 have HC : Hid (rnE11 A o.data.toList n.data.toList = 0 → ∀ W, Calls Tryz.prog 85 #[.string n] W fun e w' => e = .returned (.string n) ∧ Below W.heap.size W w') := fun e W => sclone10_calls n W (name11_size (rnF_zero e).2.1)
 clear ho hg hz hn
 unfold rnA11 rnL11 rnS11
 generalize rnE11 A o.data.toList n.data.toList = r at *
 generalize err5 (name5 o.data.toList) 10 = e0 at *
 generalize err5 (name5 n.data.toList) 10 = e1 at *
 generalize err5 (hasV A o.data.toList) 8 = e2 at *
 generalize err5 (!hasV A n.data.toList) 9 = e3 at *
 by_cases h0 : r = 0
 ·
  subst h0
  rw [if_pos rfl, if_pos rfl, if_pos rfl]
  have HP2 := Lib.hid (HPT.out rfl)
  have HC2 := Lib.hid (HC.out rfl)
  clear HPT HC
  generalize putV A n.data.toList (hasA A o.data.toList, disA A o.data.toList) = A1 at *
  generalize tx10 (hasA A o.data.toList) = ss at *
  generalize disA A o.data.toList = dd at *
  generalize hrr : reE9 L o.data.toList n.data.toList = rr at *
  generalize hrl : reL9 L o.data.toList n.data.toList = L2 at *
  have HRR := Lib.hid hrr
  have HRL := Lib.hid hrl
  clear hrr hrl
  generalize reE10 S o.data.toList n.data.toList = r10 at *
  generalize reS10 S o.data.toList n.data.toList = S2 at *
  go_enter Tryz.func29, Tryz.ntmps29
  have HB0 : Hid (Below w.heap.size w w) := Below.refl _ _
  go_wp2_with fail
  with_reducible refine (HN.out w HB0.out).mono ?_
  rintro e u1 ⟨rfl, hb⟩
  have HB1 := Lib.hid (below_next HB0.out hb)
  clear hb
  go_wp2_with fail
  with_reducible refine (HH.out u1 HB1.out).mono ?_
  rintro e u2 ⟨rfl, hb⟩
  have HB2 := Lib.hid (below_next HB1.out hb)
  clear hb
  go_wp2_with fail
  with_reducible refine (HI.out u2 HB2.out).mono ?_
  rintro e u3 ⟨rfl, hb⟩
  have HB3 := Lib.hid (below_next HB2.out hb)
  clear hb
  go_wp2_with fail
  with_reducible refine (HL.out u3 HB3.out).mono ?_
  rintro e u4 ⟨rfl, hb⟩
  have HB4 := Lib.hid (below_next HB3.out hb)
  clear hb
  go_wp2_with fail
  with_reducible refine (HFS.out _).mono ?_
  rintro e ub ⟨rfl, hub⟩
  have HB : Hid (Below w.heap.size w ub) := by
   show Below _ _ _
   rw [hub]; exact below_alloc HB4.out _
  clear hub HFS HB0 HB1 HB2 HB3 HB4 HN HH HI HL
  have c0 := (HO.out.later HB.out).c0
  have hk := HK.out _ HB.out
  clear HK
  go_wp2_with fail
  with_reducible refine (HP2.out _ HB.out).mono ?_
  rintro e w5 ⟨rfl, hg5⟩
  have c0' := hg5.1.c0
  obtain ⟨w6, hrun, hgo⟩ := HDR.out w5 0 _ hg5.1
  have HG6 := Lib.hid (hg5.next hgo)
  clear hg5 hgo HP2 HB hk c0 HDR
  go_wp2_with fail
  refine wp_region_last (by kernel_rfl) 7 (fun W => Below w6.heap.size w6 W) (fun W => Goes11 w0 w D P M G (delV A1 o.data.toList) L2 S W) (YRnW11 D M o n) (fun v => v = .int .i64 rr) ?F ?hF (by kernel_rfl) (by kernel_rfl) (by kernel_rfl) (by kernel_rfl) (by decide) (below_drew (Below.refl _ _)) ?step ?fin
  case hF =>
   intro x
   simp only [List.map_cons, List.map_nil, putL, Act.put, List.setIfInBounds_toArray, List.set_cons_zero, List.set_cons_succ, Nat.zero_add, Nat.reduceAdd]
   exact rfl
  case step =>
   refine ⟨?_, ?_, ?_, ?_, ?_, ?_, ?_, ?_, trivial⟩
   ·
    intro x W
    refine ⟨fun _ hW hdep K hK => ?_, (fun h => absurd h (by decide)), (fun h => absurd h (by decide))⟩
    clear hdep
    go_simp
    exact hK _ _ rfl hW (fun _ _ h => h)
   ·
    intro x W
    refine ⟨fun _ hW hdep K hK => ?_, (fun h => absurd h (by decide)), (fun h => absurd h (by decide))⟩
    have h0 : x 0 = _ := hdep 0 rfl
    clear hdep
    simp only [h0] at hK
    go_simp
    exact hK _ _ rfl hW (fun _ _ h => h)
   ·
    intro x W
    refine ⟨fun _ hW hdep K hK => ?_, (fun h => absurd h (by decide)), (fun h => absurd h (by decide))⟩
    have h1 : x 1 = _ := hdep 1 rfl
    clear hdep
    simp only [h1] at hK
    go_simp
    exact hK _ _ rfl hW (fun _ _ h => h)
   ·
    intro x W
    refine ⟨fun _ hW hdep K hK => ?_, (fun h => absurd h (by decide)), (fun h => absurd h (by decide))⟩
    have h2 : x 2 = _ := hdep 2 rfl
    have c := (HG6.out.1.later hW).c1
    clear hdep
    simp only [h2] at hK
    go_simp
    exact hK _ _ rfl hW (fun _ _ h => h)
   ·
    intro x W
    refine ⟨fun _ hW hdep K hK => ?_, (fun h => absurd h (by decide)), (fun h => absurd h (by decide))⟩
    clear hdep
    go_simp
    exact hK _ _ rfl hW (fun _ _ h => h)
   ·
    intro x W
    refine ⟨fun _ hW hdep K hK => ?_, (fun h => absurd h (by decide)), (fun h => absurd h (by decide))⟩
    clear hdep
    go_simp
    exact hK _ _ rfl hW (fun _ _ h => h)
   ·
    intro x W
    refine ⟨fun _ hW hdep K hK => ?_, (fun h => absurd h (by decide)), (fun h => absurd h (by decide))⟩
    have h5 : x 5 = _ := hdep 5 rfl
    have hc := HC2.out W
    clear hdep
    simp only [h5] at hK
    go_simp
    refine hc.mono ?_
    rintro e W' ⟨rfl, hb⟩
    exact hK _ _ rfl (below_next hW hb) (fun _ _ h => h)
   ·
    intro x W
    refine ⟨(fun h => absurd h (by decide)), fun _ hW hdep K hK => ?_, (fun h => absurd h (by decide))⟩
    have h3 : x 3 = _ := hdep 3 rfl
    have h4 : x 4 = _ := hdep 4 rfl
    have h6 : x 6 = _ := hdep 6 rfl
    have hc := HMR.out W _ _ _ (HG6.out.1.later hW)
    clear hdep
    simp only [h3, h4, h6] at hK
    go_simp
    refine hc.mono ?_
    rintro e W' ⟨rfl, hg⟩
    rw [HRL.out] at hg
    exact hK _ _ (by rw [HRR.out]) ⟨hg.1, HG6.out.2.trans ((Keeps11.of_below hW).trans hg.2)⟩
  case fin =>
   intro x W hW hZ
   have HF := Lib.hid hW
   have c2 := hW.1.c2
   have HGR1 := Lib.hid (HGR.out W _ _ hW.1)
   clear hW hZ HG6 HMR HGR HC2 HO HRR HRL c0' hrun
   go_wp2_with fail
   with_reducible refine HGR1.out.mono ?_
   rintro e w8 ⟨rfl, hg⟩
   have HFF := Lib.hid (HF.out.next hg)
   clear hg HGR1 HF c2
   go_wp2
   go_ret
   exact ⟨rfl, HFF.out⟩
 ·
  rw [if_neg h0, if_neg h0, if_neg h0]
  clear HPT HC HK HDR HMR HGR
  have q1 : (r == 0) = false := by simpa using h0
  have q2 : ¬ r = 0 := h0
  go_enter Tryz.func29, Tryz.ntmps29
  have HB0 : Hid (Below w.heap.size w w) := Below.refl _ _
  go_wp2_with fail
  with_reducible refine (HN.out w HB0.out).mono ?_
  rintro e u1 ⟨rfl, hb⟩
  have HB1 := Lib.hid (below_next HB0.out hb)
  clear hb
  go_wp2_with fail
  with_reducible refine (HH.out u1 HB1.out).mono ?_
  rintro e u2 ⟨rfl, hb⟩
  have HB2 := Lib.hid (below_next HB1.out hb)
  clear hb
  go_wp2_with fail
  with_reducible refine (HI.out u2 HB2.out).mono ?_
  rintro e u3 ⟨rfl, hb⟩
  have HB3 := Lib.hid (below_next HB2.out hb)
  clear hb
  go_wp2_with fail
  with_reducible refine (HL.out u3 HB3.out).mono ?_
  rintro e u4 ⟨rfl, hb⟩
  have HB4 := Lib.hid (below_next HB3.out hb)
  clear hb
  go_wp2_with fail
  with_reducible refine (HFS.out _).mono ?_
  rintro e ub ⟨rfl, hub⟩
  have HB : Hid (Below w.heap.size w ub) := by
   show Below _ _ _
   rw [hub]; exact below_alloc HB4.out _
  clear hub HFS HB0 HB1 HB2 HB3 HB4 HN HH HI HL
  go_wp2
  go_ret
  exact ⟨rfl, HO.out.still HB.out⟩

def Look11 (A : Acc11) (L : Row7) (S : Grs10) (n : ByteArray) (w W : World) (v : Value) : Prop :=
 (deE11 A n.data.toList = 0 → Told11 A L S n w W v) ∧ (deE11 A n.data.toList ≠ 0 → v = .agg #[.string ⟨#[]⟩, .string ⟨#[]⟩, .string ⟨#[]⟩, .bool false, .slice none 0 0])
theorem Told11.low {w w1 W : World} {n : ByteArray} {v : Value} (h : Told11 A L S n w1 W v) (hb : Below w.heap.size w w1) : Told11 A L S n w W v := by
 obtain ⟨ga, gc, e, hr⟩ := h
 exact ⟨ga, gc, e, ownsRow_low10 hr hb.size⟩
set_option maxRecDepth 100000 in
set_option maxHeartbeats 2000000 in
theorem lookup11_calls (n : ByteArray) (ho : Own11 w0 w D P M G A L S) (hk : Good10 S k) (hn : n.size ≤ 9223372036854775807) :
  Calls Tryz.prog 12 #[.pointer (some ⟨D, 0, none⟩), .string n] w fun e w' => ∃ v, e = .returned (.tuple #[v, .int .i64 (deE11 A n.data.toList)]) ∧ Look11 A L S n w w' v ∧ Below w.heap.size w w' := by
 have hzu := zerou11
 have HN : Hid (∀ W, Below w.heap.size w W → Calls Tryz.prog 52 #[.string n] W fun e w' => e = .returned (.int .i64 (err5 (name5 n.data.toList) 10)) ∧ Below W.heap.size W w') := fun W hb => Name_calls n W hn
 have HI : Hid (∀ W, Below w.heap.size w W → Calls Tryz.prog 53 #[.pointer (some ⟨D, 0, none⟩), .string n] W fun e w' => e = .returned (.int .i64 (err5 (hasV A n.data.toList) 8)) ∧ Below W.heap.size W w') := fun W hb => isThere11_calls n (ho.later hb) hn
 have HFS : Hid (∀ W : World, Calls Tryz.prog 51 #[.slice (some ⟨W.heap.size, 0, none⟩) 2 2] (W.alloc (.cells #[.int .i64 (err5 (name5 n.data.toList) 10), .int .i64 (err5 (hasV A n.data.toList) 8)] 38)) fun e w' => e = .returned (.int .i64 (deE11 A n.data.toList)) ∧ w' = W.alloc (.cells #[.int .i64 (err5 (name5 n.data.toList) 10), .int .i64 (err5 (hasV A n.data.toList) 8)] 38)) := fun W => by
  have := firsts11 W [err5 (name5 n.data.toList) 10, err5 (hasV A n.data.toList) 8] 38 (by simp)
  rw [first11_de] at this
  exact this
 have HT : Hid (∀ W, Below w.heap.size w W → Calls Tryz.prog 54 #[.pointer (some ⟨D, 0, none⟩), .string n] W fun e w' => ∃ v, e = .returned v ∧ Told11 A L S n w w' v ∧ Below W.heap.size W w') := fun W hb =>
  (tell11_calls n (ho.later hb) hk hn).mono fun e w' ⟨v, he, ht, hb'⟩ => ⟨v, he, ht.low hb, hb'⟩
 clear ho hk hn
 obtain ⟨r, hr⟩ : ∃ r, r = deE11 A n.data.toList := ⟨_, rfl⟩
 rw [← hr] at HFS ⊢
 have HRD := Lib.hid hr
 clear hr
 generalize err5 (name5 n.data.toList) 10 = e0 at *
 generalize err5 (hasV A n.data.toList) 8 = e1 at *
 have hz1 : Blk5 (w.alloc (.cells #[.string ⟨#[]⟩, .string ⟨#[]⟩, .string ⟨#[]⟩, .bool false, .slice none 0 0] 37)) w.heap.size (.string ⟨#[]⟩) (.string ⟨#[]⟩) (.string ⟨#[]⟩) (.bool false) (.slice none 0 0) := heap_alloc_new w _
 have HZ := Lib.hid hz1
 have HB0 : Hid (Below w.heap.size w (w.alloc (.cells #[.string ⟨#[]⟩, .string ⟨#[]⟩, .string ⟨#[]⟩, .bool false, .slice none 0 0] 37))) := below_alloc (Below.refl _ _) _
 clear hz1
 go_enter Tryz.func12, Tryz.ntmps12
 go_wp2_with fail
 with_reducible refine (HN.out _ HB0.out).mono ?_
 rintro e u1 ⟨rfl, hb⟩
 have HZ1 := Lib.hid (show Blk5 u1 _ _ _ _ _ _ from (hb.block w.heap.size (by simp)).trans HZ.out)
 have HB1 := Lib.hid (below_next HB0.out hb)
 have HL1 : Hid (w.heap.size < u1.heap.size) := by have := hb.size; show _ < _; simp at this; omega
 clear hb HZ HB0 HN
 go_wp2_with fail
 with_reducible refine (HI.out _ HB1.out).mono ?_
 rintro e u2 ⟨rfl, hb⟩
 have HZ2 := Lib.hid (show Blk5 u2 _ _ _ _ _ _ from (hb.block w.heap.size HL1.out).trans HZ1.out)
 have HB2 := Lib.hid (below_next HB1.out hb)
 have HL2 : Hid (w.heap.size < u2.heap.size) := by have := hb.size; have := HL1.out; show _ < _; omega
 clear hb HZ1 HB1 HI HL1
 go_wp2_with fail
 with_reducible refine (HFS.out _).mono ?_
 rintro e ub ⟨rfl, hub⟩
 have HB : Hid (Below w.heap.size w ub) := by
  show Below _ _ _
  rw [hub]; exact below_alloc HB2.out _
 have HZ3 : Hid (Blk5 ub w.heap.size (.string ⟨#[]⟩) (.string ⟨#[]⟩) (.string ⟨#[]⟩) (.bool false) (.slice none 0 0)) := by
  show Blk5 _ _ _ _ _ _ _
  rw [hub]; exact (Below.heap_alloc _ _ _ HL2.out).trans HZ2.out
 have HL3 : Hid (w.heap.size < ub.heap.size) := by
  show _ < _
  rw [hub]; have := HL2.out; simp; omega
 clear hub HFS HB2 HZ2 HL2
 have SET : Hid (∀ W, Below w.heap.size w W → Blk5 W w.heap.size (.string ⟨#[]⟩) (.string ⟨#[]⟩) (.string ⟨#[]⟩) (.bool false) (.slice none 0 0) → ∀ a b c d e, Blk5 (set5 W w.heap.size a b c d e) w.heap.size a b c d e ∧ Below w.heap.size w (set5 W w.heap.size a b c d e) ∧ ∀ v xs m, W.ownsRow w.heap.size 9 1 v m xs → (set5 W w.heap.size a b c d e).ownsRow w.heap.size 9 1 v m xs) := fun W hbw hz a b c d e => by
  have ht : Turns (fun i => i = w.heap.size) W (set5 W w.heap.size a b c d e) := turns_set5 (Turns.refl (fun i => i = w.heap.size) W) w.heap.size (fun _ => rfl) _ _ _ _ _
  refine ⟨hz.set5 _ _ _ _ _, hbw.trans (ht.below_at hbw.size (fun i e => by omega)), fun v xs m ho => ⟨ho.1, ?_⟩⟩
  rcases ho.2 with hn | ⟨g, cap, cur, e1, h0, hg, hr⟩
  ·
   exact .inl hn
  ·
   have hne : g ≠ w.heap.size := fun e => by
    subst e
    rw [show W.heap[w.heap.size]? = _ from hz] at hg
    injection hg with hg
    injection hg with _ h
    exact absurd h (by decide)
   exact .inr ⟨g, cap, cur, e1, h0, (ht.block g (Array.getElem?_eq_some_iff.1 hg).1 hne).trans hg, hr⟩
 by_cases h0 : r = 0
 ·
  subst h0
  go_wp2_with fail
  with_reducible refine (HT.out _ HB.out).mono ?_
  rintro e w4 ⟨v, rfl, ht, hb⟩
  obtain ⟨ga, gc, rfl, hr⟩ := ht
  have hz : Blk5 w4 w.heap.size (.string ⟨#[]⟩) (.string ⟨#[]⟩) (.string ⟨#[]⟩) (.bool false) (.slice none 0 0) := (hb.block w.heap.size HL3.out).trans HZ3.out
  have hbw := below_next HB.out hb
  obtain ⟨s1, s2, s3⟩ := SET.out w4 hbw hz (.string n) (.string (tx10 (hasA A n.data.toList))) (.string (tx10 (getE L n.data.toList))) (.bool (disA A n.data.toList)) (.slice ga (of10 S n.data.toList).length gc)
  have HR := Lib.hid (s3 _ _ _ hr)
  have HBB := Lib.hid s2
  have HT2 : Hid (Told11 A L S n w (set5 w4 w.heap.size (.string n) (.string (tx10 (hasA A n.data.toList))) (.string (tx10 (getE L n.data.toList))) (.bool (disA A n.data.toList)) (.slice ga (of10 S n.data.toList).length gc)) (.agg #[.string n, .string (tx10 (hasA A n.data.toList)), .string (tx10 (getE L n.data.toList)), .bool (disA A n.data.toList), .slice ga (of10 S n.data.toList).length gc])) := ⟨ga, gc, rfl, HR.out⟩
  have HT3 := Lib.hid (show Look11 A L S n w _ _ from ⟨fun _ => HT2.out, fun h => absurd HRD.out.symm h⟩)
  clear HT2 HR SET HT HZ3 HL3 hb hr hbw s2 s3
  generalize tx10 (hasA A n.data.toList) = ss at *
  generalize disA A n.data.toList = dd at *
  generalize tx10 (getE L n.data.toList) = mm at *
  generalize (of10 S n.data.toList).length = gl at *
  have f1 := hz.free
  have q0 : _ = some (.string n : Value) := s1.at_ 0
  have q1 : _ = some (.string ss : Value) := s1.at_ 1
  have q2 : _ = some (.string mm : Value) := s1.at_ 2
  have q3 : _ = some (.bool dd : Value) := s1.at_ 3
  have q4 : _ = some (.slice ga gl gc : Value) := s1.at_ 4
  have r0 : _ = some (.string ⟨#[]⟩ : Value) := hz.at_ 0
  have r1 : _ = some (.string ⟨#[]⟩ : Value) := hz.at_ 1
  have r2 : _ = some (.string ⟨#[]⟩ : Value) := hz.at_ 2
  have r3 : _ = some (.bool false : Value) := hz.at_ 3
  have r4 : _ = some (.slice none 0 0 : Value) := hz.at_ 4
  clear hz s1
  unfold set5 at q0 q1 q2 q3 q4 HT3 HBB
  go_wp2
  refine bodyPost_ret (v := .tuple #[.agg #[.string n, .string ss, .string mm, .bool dd, .slice ga gl gc], .int .i64 0]) ?_ rfl ⟨_, rfl, HT3.out, HBB.out⟩
  simp [results, Tryz.results12, go_sem, q0, q1, q2, q3, q4]
 ·
  have q1 : (r == 0) = false := by simpa using h0
  have q2 : (r != 0) = true := by simpa using h0
  obtain ⟨s1, s2, _⟩ := SET.out ub HB.out HZ3.out (.string ⟨#[]⟩) (.string ⟨#[]⟩) (.string ⟨#[]⟩) (.bool false) (.slice none 0 0)
  have HBB := Lib.hid s2
  have hz := HZ3.out
  clear SET HT HZ3 HL3 s2 HB
  have f1 := hz.free
  have p0 : _ = some (.string ⟨#[]⟩ : Value) := s1.at_ 0
  have p1 : _ = some (.string ⟨#[]⟩ : Value) := s1.at_ 1
  have p2 : _ = some (.string ⟨#[]⟩ : Value) := s1.at_ 2
  have p3 : _ = some (.bool false : Value) := s1.at_ 3
  have p4 : _ = some (.slice none 0 0 : Value) := s1.at_ 4
  have r0 : _ = some (.string ⟨#[]⟩ : Value) := hz.at_ 0
  have r1 : _ = some (.string ⟨#[]⟩ : Value) := hz.at_ 1
  have r2 : _ = some (.string ⟨#[]⟩ : Value) := hz.at_ 2
  have r3 : _ = some (.bool false : Value) := hz.at_ 3
  have r4 : _ = some (.slice none 0 0 : Value) := hz.at_ 4
  clear hz s1
  unfold set5 at p0 p1 p2 p3 p4 HBB
  go_wp2
  refine bodyPost_ret (v := .tuple #[.agg #[.string ⟨#[]⟩, .string ⟨#[]⟩, .string ⟨#[]⟩, .bool false, .slice none 0 0], .int .i64 r]) ?_ rfl ⟨_, rfl, ⟨fun h => absurd (HRD.out.trans h) h0, fun _ => rfl⟩, HBB.out⟩
  simp [results, Tryz.results12, go_sem, p0, p1, p2, p3, p4]
end
end Go.Proofs.YthlgmkfofebbfaaGreatDoor


namespace Go.Proofs.YthlgmkfofebbfaaGreatDoor
open Go.RowKit Go.Maps Go.Shelf

def MkA11 (A : Acc11) (W : World) (v : Value) (F : Nat → Prop) : Prop := ∃ b, v = .map (some b) ∧ Acc11At W b A ∧ F b
def MkM11 (L : Row7) (W : World) (v : Value) (F : Nat → Prop) : Prop := ∃ M p q LM, v = .pointer (some ⟨M, 0, none⟩) ∧ Idx9 W M p q L LM ∧ ∀ i, fpM11 M p q i → F i
def MkG11 (S : Grs10) (W : World) (v : Value) (F : Nat → Prop) : Prop := ∃ G pg T, v = .pointer (some ⟨G, 0, none⟩) ∧ Grp10 W G pg T ∧ plain10 T = S ∧ ∀ i, fpG11 G pg T i → F i
def Trio11 (w W : World) (A : Acc11) (L : Row7) (S : Grs10) (P M G : Nat) : Prop :=
 ∃ p q LM pg T, Acc11At W P A ∧ Idx9 W M p q L LM ∧ Grp10 W G pg T ∧ plain10 T = S ∧ (∀ i, fpM11 M p q i → i ≠ P) ∧ (∀ i, fpG11 G pg T i → i ≠ P) ∧ (∀ i, fpM11 M p q i → fpG11 G pg T i → False) ∧ (∀ i, i = P ∨ fpM11 M p q i ∨ fpG11 G pg T i → w.heap.size ≤ i)
def YCo11 (D P M G : Nat) : Nat → Value → Prop
 | 3, v => v = .map (some P)
 | 7, v => v = .pointer (some ⟨D, 1, none⟩)
 | 8, v => v = .pointer (some ⟨M, 0, none⟩)
 | 12, v => v = .pointer (some ⟨D, 2, none⟩)
 | 13, v => v = .pointer (some ⟨G, 0, none⟩)
 | 4, _ => True
 | 9, _ => True
 | 14, _ => True
 | 15, _ => True
 | 16, _ => True
 | 17, _ => True
 | _, v => v = .pointer (some ⟨D, 0, none⟩)
structure Co11 (w : World) (D P M G : Nat) (A : Acc11) (L : Row7) (S : Grs10) (E : Nat → Bool) (x : Nat → Value) (W : World) : Prop where
 b : Below w.heap.size w W
 y : ∀ {j : Nat}, E j = true → YCo11 D P M G j (x j)
 f : ∃ F4 F9 F14 : Nat → Prop, (E 4 = true → MkA11 A W (x 4) F4) ∧ (E 9 = true → MkM11 L W (x 9) F9) ∧ (E 14 = true → MkG11 S W (x 14) F14) ∧
  (∀ i, F4 i ∨ F9 i ∨ F14 i → w.heap.size ≤ i ∧ i < W.heap.size) ∧ (∀ i, F4 i → F9 i → False) ∧ (∀ i, F4 i → F14 i → False) ∧ (∀ i, F9 i → F14 i → False)
 y15 : E 15 = true → ∃ P' M' G', x 15 = .agg #[.map (some P'), .pointer (some ⟨M', 0, none⟩), .pointer (some ⟨G', 0, none⟩)] ∧ Trio11 w W A L S P' M' G'
 y16 : E 16 = true → ∃ D' P' M' G', x 16 = .pointer (some ⟨D', 0, none⟩) ∧ Own11 w W D' P' M' G' A L S
 y17 : E 17 = true → ∃ D' P' M' G', x 17 = .pointer (some ⟨D', 0, none⟩) ∧ Own11 w W D' P' M' G' A L S

section
variable {w W W' : World} {D P M G : Nat} {A : Acc11} {L : Row7} {S : Grs10} {E : Nat → Bool} {x : Nat → Value}
theorem Trio11.later {P' M' G' : Nat} (h : Trio11 w W A L S P' M' G') (hb : Below W.heap.size W W') : Trio11 w W' A L S P' M' G' := by
 obtain ⟨p, q, LM, pg, T, h1, h2, h3, h4⟩ := h
 exact ⟨p, q, LM, pg, T, h1.kept (hb.block _ h1.lt), h2.later hb, h3.later hb, h4⟩
theorem MkA11.later {v : Value} {F : Nat → Prop} (h : MkA11 A W v F) (hb : Below W.heap.size W W') : MkA11 A W' v F := by
 obtain ⟨b, e, h1, h2⟩ := h
 exact ⟨b, e, h1.kept (hb.block _ h1.lt), h2⟩
theorem MkM11.later {v : Value} {F : Nat → Prop} (h : MkM11 L W v F) (hb : Below W.heap.size W W') : MkM11 L W' v F := by
 obtain ⟨M, p, q, LM, e, h1, h2⟩ := h
 exact ⟨M, p, q, LM, e, h1.later hb, h2⟩
theorem MkG11.later {v : Value} {F : Nat → Prop} (h : MkG11 S W v F) (hb : Below W.heap.size W W') : MkG11 S W' v F := by
 obtain ⟨G, pg, T, e, h1, h2⟩ := h
 exact ⟨G, pg, T, e, h1.later hb, h2⟩
theorem updE_same {x : Nat → Value} {i : Nat} {v : Value} : upd x i v i = v := if_pos rfl
theorem updE_ne {x : Nat → Value} {i j : Nat} {v : Value} (h : j ≠ i) : upd x i v j = x j := if_neg h
theorem updLE_ne {E : Nat → Bool} {i j : Nat} (h : j ≠ i) : updL E i j = E j := if_neg h
theorem Co11.more (h : Co11 w D P M G A L S E x W) (i : Nat) (v : Value) (hb : Below W.heap.size W W') (hy : YCo11 D P M G i v)
  (h4 : i = 4 → MkA11 A W' v (fun j => W.heap.size ≤ j ∧ j < W'.heap.size)) (h9 : i = 9 → MkM11 L W' v (fun j => W.heap.size ≤ j ∧ j < W'.heap.size)) (h14 : i = 14 → MkG11 S W' v (fun j => W.heap.size ≤ j ∧ j < W'.heap.size))
  (h15 : i = 15 → ∃ P' M' G', v = .agg #[.map (some P'), .pointer (some ⟨M', 0, none⟩), .pointer (some ⟨G', 0, none⟩)] ∧ Trio11 w W' A L S P' M' G') (h16 : i = 16 → ∃ D' P' M' G', v = .pointer (some ⟨D', 0, none⟩) ∧ Own11 w W' D' P' M' G' A L S) (h17 : i = 17 → ∃ D' P' M' G', v = .pointer (some ⟨D', 0, none⟩) ∧ Own11 w W' D' P' M' G' A L S) :
  Co11 w D P M G A L S (updL E i) (upd x i v) W' := by
 refine ⟨below_next h.b hb, fun {j} hd => ?_, ?_, fun hd => ?_, fun hd => ?_, fun hd => ?_⟩
 ·
  by_cases e : j = i
  ·
   subst e; rw [updE_same]; exact hy
  ·
   rw [updE_ne e]; rw [updLE_ne e] at hd; exact h.y hd
 ·
  obtain ⟨F4, F9, F14, g4, g9, g14, hr, d1, d2, d3⟩ := h.f
  have hs := hb.size
  have hw := h.b.size
  by_cases i4 : i = 4
  ·
   subst i4
   refine ⟨(fun j => W.heap.size ≤ j ∧ j < W'.heap.size), F9, F14, fun _ => by rw [updE_same]; exact h4 rfl, fun hd => ?_, fun hd => ?_, ?_, ?_, ?_, d3⟩
   ·
    rw [updE_ne (by decide)]; rw [updLE_ne (by decide)] at hd; exact (g9 hd).later hb
   ·
    rw [updE_ne (by decide)]; rw [updLE_ne (by decide)] at hd; exact (g14 hd).later hb
   ·
    rintro j (h1 | h1 | h1)
    ·
     omega
    ·
     have := hr j (.inr (.inl h1)); omega
    ·
     have := hr j (.inr (.inr h1)); omega
   ·
    intro j h1 h2; have := hr j (.inr (.inl h2)); omega
   ·
    intro j h1 h2; have := hr j (.inr (.inr h2)); omega
  ·
   by_cases i9 : i = 9
   ·
    subst i9
    refine ⟨F4, (fun j => W.heap.size ≤ j ∧ j < W'.heap.size), F14, fun hd => ?_, fun _ => by rw [updE_same]; exact h9 rfl, fun hd => ?_, ?_, ?_, d2, ?_⟩
    ·
     rw [updE_ne (by decide)]; rw [updLE_ne (by decide)] at hd; exact (g4 hd).later hb
    ·
     rw [updE_ne (by decide)]; rw [updLE_ne (by decide)] at hd; exact (g14 hd).later hb
    ·
     rintro j (h1 | h1 | h1)
     ·
      have := hr j (.inl h1); omega
     ·
      omega
     ·
      have := hr j (.inr (.inr h1)); omega
    ·
     intro j h1 h2; have := hr j (.inl h1); omega
    ·
     intro j h1 h2; have := hr j (.inr (.inr h2)); omega
   ·
    by_cases i14 : i = 14
    ·
     subst i14
     refine ⟨F4, F9, (fun j => W.heap.size ≤ j ∧ j < W'.heap.size), fun hd => ?_, fun hd => ?_, fun _ => by rw [updE_same]; exact h14 rfl, ?_, d1, ?_, ?_⟩
     ·
      rw [updE_ne (by decide)]; rw [updLE_ne (by decide)] at hd; exact (g4 hd).later hb
     ·
      rw [updE_ne (by decide)]; rw [updLE_ne (by decide)] at hd; exact (g9 hd).later hb
     ·
      rintro j (h1 | h1 | h1)
      ·
       have := hr j (.inl h1); omega
      ·
       have := hr j (.inr (.inl h1)); omega
      ·
       omega
     ·
      intro j h1 h2; have := hr j (.inl h1); omega
     ·
      intro j h1 h2; have := hr j (.inr (.inl h1)); omega
    ·
     refine ⟨F4, F9, F14, fun hd => ?_, fun hd => ?_, fun hd => ?_, fun j hj => ⟨(hr j hj).1, Nat.lt_of_lt_of_le (hr j hj).2 hs⟩, d1, d2, d3⟩
     ·
      rw [updE_ne (Ne.symm i4)]; rw [updLE_ne (Ne.symm i4)] at hd; exact (g4 hd).later hb
     ·
      rw [updE_ne (Ne.symm i9)]; rw [updLE_ne (Ne.symm i9)] at hd; exact (g9 hd).later hb
     ·
      rw [updE_ne (Ne.symm i14)]; rw [updLE_ne (Ne.symm i14)] at hd; exact (g14 hd).later hb
 ·
  by_cases e : 15 = i
  ·
   subst e; rw [updE_same]; exact h15 rfl
  ·
   rw [updE_ne e]; rw [updLE_ne e] at hd; obtain ⟨a, b, c, e1, e2⟩ := h.y15 hd; exact ⟨a, b, c, e1, e2.later hb⟩
 ·
  by_cases e : 16 = i
  ·
   subst e; rw [updE_same]; exact h16 rfl
  ·
   rw [updE_ne e]; rw [updLE_ne e] at hd; obtain ⟨a, b, c, d, e1, e2⟩ := h.y16 hd; exact ⟨a, b, c, d, e1, e2.later hb⟩
 ·
  by_cases e : 17 = i
  ·
   subst e; rw [updE_same]; exact h17 rfl
  ·
   rw [updE_ne e]; rw [updLE_ne e] at hd; obtain ⟨a, b, c, d, e1, e2⟩ := h.y17 hd; exact ⟨a, b, c, d, e1, e2.later hb⟩
theorem Co11.quiet (h : Co11 w D P M G A L S E x W) (i : Nat) {v : Value} (hy : YCo11 D P M G i v) (hi : [4, 9, 14, 15, 16, 17].contains i = false := by rfl) : Co11 w D P M G A L S (updL E i) (upd x i v) W :=
 h.more i v (Below.refl _ _) hy (fun e => by subst e; cases hi) (fun e => by subst e; cases hi) (fun e => by subst e; cases hi) (fun e => by subst e; cases hi) (fun e => by subst e; cases hi) (fun e => by subst e; cases hi)
theorem Co11.start (w : World) (x : Nat → Value) : Co11 w D P M G A L S (fun _ => false) x w.drew :=
 ⟨below_drew (Below.refl _ _), (fun {_} h => nomatch h), ⟨(fun _ => False), (fun _ => False), (fun _ => False), (fun h => nomatch h), (fun h => nomatch h), (fun h => nomatch h), (fun _ h => by rcases h with h | h | h <;> exact h.elim), (fun _ h _ => h), (fun _ h _ => h), (fun _ h _ => h)⟩, (fun h => nomatch h), (fun h => nomatch h), (fun h => nomatch h)⟩
theorem Co11.trio (h : Co11 w D P M G A L S E x W) (h4 : E 4 = true) (h9 : E 9 = true) (h14 : E 14 = true) : ∃ P' M' G', x 4 = .map (some P') ∧ x 9 = .pointer (some ⟨M', 0, none⟩) ∧ x 14 = .pointer (some ⟨G', 0, none⟩) ∧ Trio11 w W A L S P' M' G' := by
 obtain ⟨F4, F9, F14, g4, g9, g14, hr, d1, d2, d3⟩ := h.f
 obtain ⟨P', e4, a1, a2⟩ := g4 h4
 obtain ⟨M', p, q, LM, e9, b1, b2⟩ := g9 h9
 obtain ⟨G', pg, T, e14, c1, c2, c3⟩ := g14 h14
 refine ⟨P', M', G', e4, e9, e14, p, q, LM, pg, T, a1, b1, c1, c2, fun i hi e => ?_, fun i hi e => ?_, fun i hi hj => d3 i (b2 i hi) (c3 i hj), fun i hi => ?_⟩
 ·
  subst e; exact d1 i a2 (b2 i hi)
 ·
  subst e; exact d2 i a2 (c3 i hi)
 ·
  rcases hi with rfl | hi | hi
  ·
   exact (hr i (.inl a2)).1
  ·
   exact (hr i (.inr (.inl (b2 i hi)))).1
  ·
   exact (hr i (.inr (.inr (c3 i hi)))).1
theorem trio_own {P' M' G' : Nat} (h : Trio11 w W A L S P' M' G') (hb : Below w.heap.size w W) : Own11 w (W.alloc (.cells #[.map (some P'), .pointer (some ⟨M', 0, none⟩), .pointer (some ⟨G', 0, none⟩)] 70)) W.heap.size P' M' G' A L S := by
 have ha := below_alloc (Below.refl W.heap.size W) (.cells #[.map (some P'), .pointer (some ⟨M', 0, none⟩), .pointer (some ⟨G', 0, none⟩)] 70)
 obtain ⟨p, q, LM, pg, T, h1, h2, h3, h4, h5, h6, h7, h8⟩ := h
 refine ⟨p, q, LM, pg, T, ⟨heap_alloc_new W _, h1.kept (ha.block _ h1.lt), h2.later ha, h3.later ha, h5, h6, h7⟩, h4, fun i hi => ?_, below_next hb ha⟩
 rcases hi with rfl | hi
 ·
  exact hb.size
 ·
  exact h8 i hi
end

section
variable {w0 w : World} {D P M G : Nat} {A : Acc11} {L : Row7} {S : Grs10} {k : Nat}
theorem cloneA11_calls (ho : Own11 w0 w D P M G A L S) : Calls Tryz.prog 103 #[.map (some P)] w fun e w' => e = .returned (.map (some w.heap.size)) ∧ Acc11At w' w.heap.size A ∧ Below w.heap.size w w' := by
 obtain ⟨p, q, LM, pg, T, hd, _⟩ := ho
 exact (AnyW.maps_Clone_owns Tryz.clone11 9 _ P _ _ w hd.acc).mono fun _ _ ⟨he, h1, _, hb⟩ => ⟨he, h1, hb⟩
theorem copyM11_calls (ho : Own11 w0 w D P M G A L S) : Calls Tryz.prog 104 #[.pointer (some ⟨M, 0, none⟩)] w fun e w' => Below w.heap.size w w' ∧ ∃ v, e = .returned v ∧ MkM11 L w' v (fun j => w.heap.size ≤ j ∧ j < w'.heap.size) := by
 obtain ⟨p, q, LM, pg, T, hd, _⟩ := ho
 refine (copy9_calls M p q L LM w hd.idx).mono fun e w' ⟨b, p', q', M', he, hz, hb⟩ => ⟨hb, _, he, b, p', q', M', rfl, hz.1, fun i hi => ⟨?_, fpM_lt hz.1 hi⟩⟩
 rcases hi with rfl | h | h
 ·
  exact hz.2.1
 ·
  exact hz.2.2.1 i h
 ·
  exact hz.2.2.2 i h
theorem copyG11_calls (ho : Own11 w0 w D P M G A L S) (hk : Good10 S k) : Calls Tryz.prog 105 #[.pointer (some ⟨G, 0, none⟩)] w fun e w' => Below w.heap.size w w' ∧ ∃ v, e = .returned v ∧ MkG11 S w' v (fun j => w.heap.size ≤ j ∧ j < w'.heap.size) := by
 obtain ⟨p, q, LM, pg, T, hd, rfl, _⟩ := ho
 have hf := few11 hk
 refine (copy10_calls G pg T w hd.grp (by omega) (named11 hk)).mono fun e w' ⟨b, p', T', he, hz, hS, hb⟩ => ⟨hb, _, he, b, p', T', rfl, hz.1, hS, fun i hi => ⟨?_, fpG_lt hz.1 hi⟩⟩
 rcases hi with rfl | h | ⟨x, hx, rfl⟩
 ·
  exact hz.2.1
 ·
  exact hz.2.2.1 i h
 ·
  exact hz.2.2.2 x hx
set_option maxRecDepth 100000 in
set_option maxHeartbeats 2000000 in
theorem ncopy11_calls (ho : Own11 w0 w D P M G A L S) (hk : Good10 S k) : Calls Tryz.prog 48 #[.pointer (some ⟨D, 0, none⟩)] w fun e w' => ∃ D' P' M' G', e = .returned (.pointer (some ⟨D', 0, none⟩)) ∧ Own11 w w' D' P' M' G' A L S := by
 have HO := Lib.hid ho
 have HKG := Lib.hid hk
 clear ho hk
 go_enter Tryz.func48, Tryz.ntmps48
 go_wp2_with fail
 refine wp_region_gen (by kernel_rfl) (Co11 w D P M G A L S) ?F ?hF (by kernel_rfl) (by kernel_rfl) (fun x => Co11.start w x) ?step ?fin
 case hF =>
  intro x
  simp only [List.map_cons, List.map_nil, putL, Act.put, List.setIfInBounds_toArray, List.set_cons_zero, List.set_cons_succ, Nat.zero_add, Nat.reduceAdd]
  exact rfl
 case step =>
  refine ⟨?_, ?_, ?_, ?_, ?_, ?_, ?_, ?_, ?_, ?_, ?_, ?_, ?_, ?_, ?_, ?_, ?_, ?_, trivial⟩
  all_goals intro E x W hi hd hI K hK
  ·
   clear hd
   go_simp
   exact hK _ _ (hI.quiet 0 rfl)
  ·
   have h0 : x 0 = _ := hI.y (hd 0 rfl)
   clear hd
   simp only [h0] at hK
   go_simp
   exact hK _ _ (hI.quiet 1 rfl)
  ·
   have h1 : x 1 = _ := hI.y (hd 1 rfl)
   clear hd
   simp only [h1] at hK
   go_simp
   exact hK _ _ (hI.quiet 2 rfl)
  ·
   have h2 : x 2 = _ := hI.y (hd 2 rfl)
   have c := (HO.out.later hI.b).c0
   clear hd
   simp only [h2] at hK
   go_simp
   exact hK _ _ (hI.quiet 3 rfl)
  ·
   have h3 : x 3 = _ := hI.y (hd 3 rfl)
   have hc := cloneA11_calls (HO.out.later hI.b)
   clear hd
   simp only [h3] at hK
   go_simp
   refine hc.mono ?_
   rintro e W' ⟨rfl, ha, hb⟩
   exact hK _ _ (hI.more 4 _ hb trivial (fun _ => ⟨_, rfl, ha, Nat.le_refl _, ha.lt⟩) (fun e => absurd e (by decide)) (fun e => absurd e (by decide)) (fun e => absurd e (by decide)) (fun e => absurd e (by decide)) (fun e => absurd e (by decide)))
  ·
   clear hd
   go_simp
   exact hK _ _ (hI.quiet 5 rfl)
  ·
   have h5 : x 5 = _ := hI.y (hd 5 rfl)
   clear hd
   simp only [h5] at hK
   go_simp
   exact hK _ _ (hI.quiet 6 rfl)
  ·
   have h6 : x 6 = _ := hI.y (hd 6 rfl)
   clear hd
   simp only [h6] at hK
   go_simp
   exact hK _ _ (hI.quiet 7 rfl)
  ·
   have h7 : x 7 = _ := hI.y (hd 7 rfl)
   have c := (HO.out.later hI.b).c1
   clear hd
   simp only [h7] at hK
   go_simp
   exact hK _ _ (hI.quiet 8 rfl)
  ·
   have h8 : x 8 = _ := hI.y (hd 8 rfl)
   have hc := copyM11_calls (HO.out.later hI.b)
   clear hd
   simp only [h8] at hK
   go_simp
   refine hc.mono ?_
   rintro e W' ⟨hb, v, rfl, hm⟩
   exact hK _ _ (hI.more 9 _ hb trivial (fun e => absurd e (by decide)) (fun _ => hm) (fun e => absurd e (by decide)) (fun e => absurd e (by decide)) (fun e => absurd e (by decide)) (fun e => absurd e (by decide)))
  ·
   clear hd
   go_simp
   exact hK _ _ (hI.quiet 10 rfl)
  ·
   have h10 : x 10 = _ := hI.y (hd 10 rfl)
   clear hd
   simp only [h10] at hK
   go_simp
   exact hK _ _ (hI.quiet 11 rfl)
  ·
   have h11 : x 11 = _ := hI.y (hd 11 rfl)
   clear hd
   simp only [h11] at hK
   go_simp
   exact hK _ _ (hI.quiet 12 rfl)
  ·
   have h12 : x 12 = _ := hI.y (hd 12 rfl)
   have c := (HO.out.later hI.b).c2
   clear hd
   simp only [h12] at hK
   go_simp
   exact hK _ _ (hI.quiet 13 rfl)
  ·
   have h13 : x 13 = _ := hI.y (hd 13 rfl)
   have hc := copyG11_calls (HO.out.later hI.b) HKG.out
   clear hd
   simp only [h13] at hK
   go_simp
   refine hc.mono ?_
   rintro e W' ⟨hb, v, rfl, hm⟩
   exact hK _ _ (hI.more 14 _ hb trivial (fun e => absurd e (by decide)) (fun e => absurd e (by decide)) (fun _ => hm) (fun e => absurd e (by decide)) (fun e => absurd e (by decide)) (fun e => absurd e (by decide)))
  ·
   obtain ⟨P', M', G', e4, e9, e14, ht⟩ := hI.trio (hd 4 rfl) (hd 9 rfl) (hd 14 rfl)
   clear hd
   simp only [e4, e9, e14] at hK
   go_simp
   exact hK _ _ (hI.more 15 _ (Below.refl _ _) trivial (fun e => absurd e (by decide)) (fun e => absurd e (by decide)) (fun e => absurd e (by decide)) (fun _ => ⟨P', M', G', rfl, ht⟩) (fun e => absurd e (by decide)) (fun e => absurd e (by decide)))
  ·
   obtain ⟨P', M', G', e15, ht⟩ := hI.y15 (hd 15 rfl)
   clear hd
   simp only [e15] at hK
   go_simp
   exact hK _ _ (hI.more 16 _ (below_alloc (Below.refl _ _) _) trivial (fun e => absurd e (by decide)) (fun e => absurd e (by decide)) (fun e => absurd e (by decide)) (fun e => absurd e (by decide)) (fun _ => ⟨_, P', M', G', rfl, trio_own ht hI.b⟩) (fun e => absurd e (by decide)))
  ·
   obtain ⟨D', P', M', G', e16, ht⟩ := hI.y16 (hd 16 rfl)
   clear hd
   simp only [e16] at hK
   go_simp
   exact hK _ _ (hI.more 17 _ (Below.refl _ _) trivial (fun e => absurd e (by decide)) (fun e => absurd e (by decide)) (fun e => absurd e (by decide)) (fun e => absurd e (by decide)) (fun e => absurd e (by decide)) (fun _ => ⟨D', P', M', G', rfl, ht⟩))
 case fin =>
  intro E x W hall hI
  obtain ⟨D', P', M', G', e, ho⟩ := hI.y17 (hall 17 (by decide))
  have HF := Lib.hid ho
  clear ho hI hall HO HKG
  rw [e]
  go_wp2
  go_ret
  exact ⟨_, _, _, _, rfl, HF.out⟩
end
end Go.Proofs.YthlgmkfofebbfaaGreatDoor


namespace Go.Proofs.YthlgmkfofebbfaaGreatDoor
open Go.RowKit Go.Maps Go.Sort Go.Shelf

structure W11 where
 hs : ByteArray
 ml : ByteArray
 dis : Bool
 ga : Option Addr
 gs : List (List UInt8)
 gc : Nat
def W11.u (x : W11) : U11 := ⟨x.hs.data.toList, x.ml.data.toList, x.dis, x.gs⟩
def cu11 (q : List UInt8 × W11) : List Value := [.string (tx10 q.1), .string q.2.hs, .string q.2.ml, .bool q.2.dis, .slice q.2.ga q.2.gs.length q.2.gc]
theorem cu11_at (L : RowV W11) (j i : Nat) (hj : j < L.length) (hi : i < 5) : (L.flatMap cu11)[j * 5 + i]? = (cu11 L[j])[i]? := by
 induction L generalizing j with
 | nil => exact absurd hj (Nat.not_lt_zero _)
 | cons q L ih =>
  rw [List.flatMap_cons]
  cases j with
  | zero =>
   rw [List.getElem?_append_left (by simp [cu11]; omega)]
   simp
  | succ j =>
   rw [List.getElem?_append_right (by simp [cu11]; omega)]
   have := ih j (by simpa using hj)
   rw [show (j + 1) * 5 + i - (cu11 q).length = j * 5 + i by simp [cu11]; omega, this]
   simp
theorem infoUser11 : (Tryz.prog.info? 37).map (fun i => (i.zero, i.size, i.bytes)) = some (some (.agg #[.string ⟨#[]⟩, .string ⟨#[]⟩, .string ⟨#[]⟩, .bool false, .slice none 0 0]), 5, 80) := by kernel_rfl

def Us11r (w : World) (v : Value) (L : RowV W11) : Prop := ∃ A c, v = .slice A L.length c ∧ ∀ j (h : j < L.length), ∃ g, A = some ⟨g, 0, none⟩ ∧ ∀ i u, (cu11 L[j])[i]? = some u → w.cell? ⟨g, j * 5 + i, none⟩ = some u
theorem Us11r.later {w w' : World} {v : Value} {L : RowV W11} (h : Us11r w v L) (hb : Below w.heap.size w w') : Us11r w' v L := by
 obtain ⟨A, c, e, hc⟩ := h
 exact ⟨A, c, e, fun j hj => by obtain ⟨g, e, h⟩ := hc j hj; exact ⟨g, e, fun i u hu => (hb.cell (p := ⟨g, j * 5 + i, none⟩) (World.block_lt_of_cell? w _ (h i u hu))).trans (h i u hu)⟩⟩
theorem Us11r.of_users {w : World} {base : Nat} {v : Value} {L : RowV W11} (h : w.ownsRow base 37 5 v L.length (L.flatMap cu11)) : Us11r w v L := by
 have hs : ∃ A c, v = .slice A L.length c := by
  rcases h.2 with ⟨rfl, h0⟩ | ⟨g, cap, cur, rfl, _⟩
  ·
   exact ⟨none, 0, by rw [h0]⟩
  ·
   exact ⟨_, _, rfl⟩
 obtain ⟨A, c, rfl⟩ := hs
 refine ⟨A, c, rfl, fun j hj => ?_⟩
 rcases h.2 with ⟨_, h0⟩ | ⟨g, cap, cur, e1, _⟩
 ·
  omega
 ·
  injection e1 with e1
  subst e1
  refine ⟨g, rfl, fun i u hu => ?_⟩
  have hi : i < 5 := (List.getElem?_eq_some_iff.1 hu).1
  have := World.ownsRow.cells h (g := g) rfl (j * 5 + i) u (by rw [cu11_at L j i hj hi]; exact hu)
  rw [Addr.add_lit, Nat.zero_add] at this
  exact this
theorem ins_endV {x : List UInt8 × W11} : ∀ {D : RowV W11}, (∀ y ∈ D, bytesBefore x.1 y.1 = false) → insV x D = D ++ [x]
 | [], _ => rfl
 | y :: r, h => by
  unfold insV
  rw [h y (by simp), ins_endV (fun z hz => h z (by simp [hz]))]
  simp
theorem ins_someV {x v : List UInt8 × W11} : ∀ {D : RowV W11}, (∃ y ∈ D, bytesBefore x.1 y.1 = true) → insV x (D ++ [v]) = insV x D ++ [v]
 | [], h => by obtain ⟨_, h, _⟩ := h; cases h
 | y :: r, h => by
  show insV x (y :: (r ++ [v])) = _
  unfold insV
  cases hb : bytesBefore x.1 y.1
  ·
   have : ∃ z ∈ r, bytesBefore x.1 z.1 = true := by
    obtain ⟨z, hz, hzb⟩ := h
    rcases List.mem_cons.1 hz with rfl | hz
    ·
     rw [hb] at hzb; cases hzb
    ·
     exact ⟨z, hz, hzb⟩
   simp [ins_someV this]
  ·
   simp
theorem ins_noneV {x v : List UInt8 × W11} : ∀ {D : RowV W11}, (∀ y ∈ D, bytesBefore x.1 y.1 = false) → bytesBefore x.1 v.1 = true → insV x (D ++ [v]) = D ++ [x, v]
 | [], _, hv => by simp [insV, hv]
 | y :: r, h, hv => by
  show insV x (y :: (r ++ [v])) = _
  unfold insV
  rw [h y (by simp), ins_noneV (fun z hz => h z (by simp [hz])) hv]
  simp

def doneV (L : RowV W11) (n : List UInt8) (k : Nat) : Bool := (L.take k).any fun v => !bytesBefore v.1 n
def outV (L : RowV W11) (n : List UInt8) (h : W11) (k : Nat) : RowV W11 := if doneV L n k then insV (n, h) (delV (L.take k) n) else delV (L.take k) n

theorem rise_takeV {L : RowV W11} (hr : RiseV L) {k : Nat} (hk : k < L.length) : ∀ y ∈ L.take k, bytesBefore y.1 L[k].1 = true := by
 intro y hy
 obtain ⟨j, hj, rfl⟩ := List.getElem_of_mem hy
 rw [List.getElem_take]
 exact List.pairwise_iff_getElem.1 hr j k _ hk (by simp at hj; omega)
theorem doneV_step {L : RowV W11} {n : List UInt8} {k : Nat} (hk : k < L.length) : doneV L n (k + 1) = (doneV L n k || !bytesBefore L[k].1 n) := by
 unfold doneV
 rw [List.take_succ_eq_append_getElem hk, List.any_append]
 simp
theorem del_snocV (P : RowV W11) (v : List UInt8 × W11) (n : List UInt8) : delV (P ++ [v]) n = delV P n ++ if v.1 = n then [] else [v] := by
 unfold delV
 rw [List.filter_append]
 by_cases e : v.1 = n <;> simp [e]
theorem outV_step {L : RowV W11} (hr : RiseV L) {n : List UInt8} {h : W11} {k : Nat} (hk : k < L.length) :
  (doneV L n k = false → bytesBefore L[k].1 n = true → outV L n h (k + 1) = outV L n h k ++ [L[k]] ∧ L[k].1 ≠ n) ∧
  (doneV L n k = false → bytesBefore L[k].1 n = false → L[k].1 = n → outV L n h (k + 1) = outV L n h k ++ [(n, h)]) ∧
  (doneV L n k = false → bytesBefore L[k].1 n = false → L[k].1 ≠ n → outV L n h (k + 1) = outV L n h k ++ [(n, h)] ++ [L[k]]) ∧
  (doneV L n k = true → outV L n h (k + 1) = outV L n h k ++ [L[k]] ∧ L[k].1 ≠ n ∧ bytesBefore L[k].1 n = false) := by
 have hup := rise_takeV hr hk
 have hst := doneV_step (n := n) hk
 have hdl : delV (L.take (k + 1)) n = delV (L.take k) n ++ if L[k].1 = n then [] else [L[k]] := by rw [List.take_succ_eq_append_getElem hk, del_snocV]
 have hno : doneV L n k = false → ∀ y ∈ delV (L.take k) n, bytesBefore n y.1 = false := fun hd y hy => by
  have hy' := (mem_delV.1 hy).1
  unfold doneV at hd
  have := List.any_eq_false.1 hd y hy'
  have hb : bytesBefore y.1 n = true := by simpa using this
  exact before_anti hb
 refine ⟨fun hd hb => ?_, fun hd hb e => ?_, fun hd hb e => ?_, fun hd => ?_⟩
 ·
  have hne := before_ne hb
  refine ⟨?_, hne⟩
  unfold outV
  rw [hst, hd, hb, hdl, if_neg hne]
  simp
 ·
  unfold outV
  rw [hst, hd, hb, hdl, if_pos e, List.append_nil]
  simp [ins_endV (x := (n, h)) (hno hd)]
 ·
  have hlt : bytesBefore n L[k].1 = true := by
   rcases WideAt.bytes_total L[k].1 n e with h' | h'
   ·
    rw [hb] at h'; cases h'
   ·
    exact h'
  unfold outV
  rw [hst, hd, hb, hdl, if_neg e]
  simp [ins_noneV (x := (n, h)) (v := L[k]) (hno hd) hlt]
 ·
  obtain ⟨y, hy, hyb⟩ := List.any_eq_true.1 (show (L.take k).any (fun v => !bytesBefore v.1 n) = true from hd)
  have hyb' : bytesBefore y.1 n = false := by simpa using hyb
  have hlt : bytesBefore n L[k].1 = true := by
   by_cases e : y.1 = n
   ·
    rw [← e]; exact hup y hy
   ·
    rcases WideAt.bytes_total y.1 n e with h' | h'
    ·
     rw [hyb'] at h'; cases h'
    ·
     exact WideShapes.bytes_trans _ _ _ h' (hup y hy)
  have hne : L[k].1 ≠ n := fun e => (before_ne hlt) e.symm
  refine ⟨?_, hne, before_anti hlt⟩
  unfold outV
  rw [hst, hd, hdl, if_neg hne]
  simp only [Bool.true_or, if_true]
  by_cases hs : ∃ y ∈ delV (L.take k) n, bytesBefore (n, h).1 y.1 = true
  ·
   exact ins_someV hs
  ·
   have hs' : ∀ y ∈ delV (L.take k) n, bytesBefore (n, h).1 y.1 = false := fun y hy => by
    cases hb : bytesBefore (n, h).1 y.1
    ·
     rfl
    ·
     exact absurd ⟨y, hy, hb⟩ hs
   rw [ins_noneV hs' hlt, ins_endV hs']
   simp
theorem outV_end {L : RowV W11} (n : List UInt8) (h : W11) : putV L n h = if doneV L n L.length then outV L n h L.length else outV L n h L.length ++ [(n, h)] := by
 unfold outV putV
 rw [List.take_length]
 cases hd : doneV L n L.length
 ·
  simp only [Bool.false_eq_true, if_false]
  refine ins_endV fun y hy => ?_
  unfold doneV at hd
  rw [List.take_length] at hd
  have hb : bytesBefore y.1 n = true := by simpa using List.any_eq_false.1 hd y (mem_delV.1 hy).1
  exact before_anti hb
 ·
  simp
theorem outV_length (L : RowV W11) (n : List UInt8) (h : W11) (k : Nat) : (outV L n h k).length ≤ L.length + 1 := by
 have h1 : (delV (L.take k) n).length ≤ L.length := Nat.le_trans (List.length_filter_le _ _) (by simp; omega)
 unfold outV
 split
 ·
  rw [insV_length]; omega
 ·
  omega

def Rw11 (L : RowV W11) (w : World) (v : Value) : Prop := w.ownsRow 0 37 5 v L.length (L.flatMap cu11)
theorem Rw11.us {L : RowV W11} {w : World} {v : Value} (h : Rw11 L w v) : Us11r w v L := Us11r.of_users (base := 0) h
theorem ownsRow_keeps11 {w w' : World} {b : Nat} {e size n : Nat} {v : Value} {xs : List Value} (h : w.ownsRow b e size v n xs) (hk : Keeps11 w w') (h1 : e ≠ 70) (h2 : e ≠ 101) (h3 : e ≠ 104) : w'.ownsRow b e size v n xs := by
 refine ⟨h.1, ?_⟩
 rcases h.2 with hn | ⟨g, cap, cur, e1, h0, hg, hr⟩
 ·
  exact .inl hn
 ·
  exact .inr ⟨g, cap, cur, e1, h0, hk g _ _ _ hg h1 h2 h3, hr⟩
theorem Rw11.keeps {L : RowV W11} {w w' : World} {v : Value} (h : Rw11 L w v) (hk : Keeps11 w w') : Rw11 L w' v := ownsRow_keeps11 h hk (by decide) (by decide) (by decide)
theorem Rw11.later {L : RowV W11} {w w' : World} {v : Value} (h : Rw11 L w v) (hb : Below w.heap.size w w') : Rw11 L w' v := h.keeps (Keeps11.of_below hb)
theorem Rw11.of_own {L : RowV W11} {w : World} {b : Nat} {v : Value} (h : w.ownsRow b 37 5 v L.length (L.flatMap cu11)) : Rw11 L w v := ownsRow_low10 h (Nat.zero_le _)
theorem Rw11.nil (w : World) : Rw11 [] w (.slice none 0 0) := World.ownsRow_nil _ _ _ _
theorem Us11r.at_ {w : World} {A : Option Addr} {c n : Nat} {L : RowV W11} (h : Us11r w (.slice A n c) L) (k : Nat) (hk : k < L.length) :
  ∃ g, A = some ⟨g, 0, none⟩ ∧ w.cell? ⟨g, k * 5, none⟩ = some (.string (tx10 L[k].1)) ∧ w.cell? ⟨g, k * 5 + 1, none⟩ = some (.string L[k].2.hs) ∧ w.cell? ⟨g, k * 5 + 2, none⟩ = some (.string L[k].2.ml) ∧ w.cell? ⟨g, k * 5 + 3, none⟩ = some (.bool L[k].2.dis) ∧ w.cell? ⟨g, k * 5 + 4, none⟩ = some (.slice L[k].2.ga L[k].2.gs.length L[k].2.gc) := by
 obtain ⟨A', c', e, hc⟩ := h
 injection e with e1 e2 e3
 obtain ⟨g, eg, hcell⟩ := hc k hk
 exact ⟨g, by rw [e1, eg], hcell 0 _ rfl, hcell 1 _ rfl, hcell 2 _ rfl, hcell 3 _ rfl, hcell 4 _ rfl⟩
theorem Us11r.shape {w : World} {v : Value} {L : RowV W11} (h : Us11r w v L) : ∃ A c, v = .slice A L.length c := by
 obtain ⟨A, c, e, _⟩ := h
 exact ⟨A, c, e⟩
theorem tx11_ne {a : List UInt8} {s : ByteArray} (h : a ≠ s.data.toList) : ¬ (tx10 a).toList = s.toList := by
 rw [Lib.toList_data, Lib.toList_data, tx10_list]; exact h
theorem tx11_eq {a : List UInt8} {s : ByteArray} (h : a = s.data.toList) : tx10 a = s := by rw [h, tx10_back]

def Found11 (L : RowV W11) (n : List UInt8) (w : World) (e : Ending) (w' : World) : Prop :=
 ∃ r : Int, e = .returned (.int .i64 r) ∧ ((hasV L n = false ∧ r = -1) ∨ (hasV L n = true ∧ ∃ i : Nat, ∃ h : i < L.length, r = i ∧ L[i].1 = n)) ∧ Below w.heap.size w w'

set_option maxRecDepth 100000 in
set_option maxHeartbeats 1000000 in
theorem rfind11_calls (A : Option Addr) (c n : Nat) (L : RowV W11) (s : ByteArray) (w : World) (hn : n = L.length) (h12 : n ≤ 12) (hu : Us11r w (.slice A n c) L) :
  Calls Tryz.prog 112 #[.slice A n c, .string s] w (Found11 L s.data.toList w) := by
 have HU := Lib.hid hu
 have HL := Lib.hid hn
 clear hu hn
 go_enter Tryz.func112, Tryz.ntmps112
 go_wp2
 go_loopg [5, 6, 9] n (fun gg _ _ s9 wr => ∃ k : Nat, k ≤ n ∧ n - k ≤ gg ∧ s9 = .int .i64 k ∧ Hid (Below w.heap.size w wr) ∧ Hid (∀ j (h : j < L.length), j < k → L[j].1 ≠ s.data.toList))
 case atStart => exact ⟨0, Nat.zero_le _, by omega, rfl, Below.refl _ _, fun j _ hj => absurd hj (Nat.not_lt_zero _)⟩
 case round =>
  obtain ⟨k, hk, hg, rfl, HW, A0⟩ := hrel
  by_cases hlt : k < n
  ·
   have hltz : (k : Int) < (n : Int) := by omega
   have hkl : k < L.length := HL.out ▸ hlt
   obtain ⟨g, rfl, c0, c1, c2, c3, c4⟩ := (HU.out.later HW.out).at_ k hkl
   have HB := Lib.hid (below_next HW.out (below_alloc (Below.refl wr.heap.size wr) (.cells #[.string (tx10 L[k].1), .string L[k].2.hs, .string L[k].2.ml, .bool L[k].2.dis, .slice L[k].2.ga L[k].2.gs.length L[k].2.gc] 37)))
   by_cases he : L[k].1 = s.data.toList
   ·
    have hs : tx10 L[k].1 = s := tx11_eq he
    have n2 : (s.toList == s.toList) = true := by simp
    have HR : Hid (Found11 L s.data.toList w (.returned (.int .i64 (k : Int))) (wr.alloc (.cells #[.string s, .string L[k].2.hs, .string L[k].2.ml, .bool L[k].2.dis, .slice L[k].2.ga L[k].2.gs.length L[k].2.gc] 37))) := by
     rw [hs] at HB
     exact ⟨_, rfl, .inr ⟨hasV_iff.2 ⟨L[k], List.getElem_mem hkl, he⟩, k, hkl, rfl, he⟩, HB.out⟩
    rw [hs] at c0
    clear he hs HB A0
    generalize L[k].2.hs = sh at *
    generalize L[k].2.ml = sm at *
    generalize L[k].2.dis = sd at *
    generalize L[k].2.ga = sa at *
    generalize L[k].2.gs.length = sn at *
    generalize L[k].2.gc = sc at *
    go_wp2
    go_ret
    exact HR.out
   ·
    have n1 := tx11_ne he
    have n2 : ((tx10 L[k].1).toList == s.toList) = false := by simpa using n1
    have HX : Hid (∀ j (h : j < L.length), j < k + 1 → L[j].1 ≠ s.data.toList) := fun j h hj => by
     by_cases e : j = k
     ·
      subst e; exact he
     ·
      exact A0.out j h (by omega)
    clear he A0
    generalize tx10 L[k].1 = nm at *
    generalize L[k].2.hs = sh at *
    generalize L[k].2.ml = sm at *
    generalize L[k].2.dis = sd at *
    generalize L[k].2.ga = sa at *
    generalize L[k].2.gs.length = sn at *
    generalize L[k].2.gc = sc at *
    go_wp2
    go_roundg (n - (k + 1))
    case measure => omega
    case rel => exact ⟨k + 1, by omega, by omega, by go_num, HB, HX⟩
  ·
   have hltz : ¬ (k : Int) < (n : Int) := by omega
   obtain rfl : k = n := by omega
   have HR : Hid (Found11 L s.data.toList w (.returned (.int .i64 (-1))) wr) := by
    refine ⟨_, rfl, .inl ⟨?_, rfl⟩, HW.out⟩
    cases hh : hasV L s.data.toList
    ·
     rfl
    ·
     obtain ⟨p, hp, he⟩ := hasV_iff.1 hh
     obtain ⟨j, hj, rfl⟩ := List.getElem_of_mem hp
     exact absurd he (A0.out j hj (by have := HL.out; omega))
   clear A0
   go_wp2
   go_ret
   exact HR.out

theorem own_ne11 {w : World} {base n size : Nat} {e : TypeId} {v : Value} {xs : List Value} (h : w.ownsRow base e size v n xs) : some w.heap.size ≠ v.ownBlock := fun he => by
 have := (h.lt _ he.symm).2
 omega

structure UsC11 (w : World) (B : Nat) (s : ByteArray) (x : W11) (n : Nat) : Prop where
 lt : B < w.heap.size
 c0 : w.cell? ⟨B, 0, none⟩ = some (.string s)
 c1 : w.cell? ⟨B, 1, none⟩ = some (.string x.hs)
 c2 : w.cell? ⟨B, 2, none⟩ = some (.string x.ml)
 c3 : w.cell? ⟨B, 3, none⟩ = some (.bool x.dis)
 c4 : w.cell? ⟨B, 4, none⟩ = some (.slice x.ga n x.gc)
theorem usc11_new (w : World) (s : ByteArray) (x : W11) (n : Nat) : UsC11 (w.alloc (.cells #[.string s, .string x.hs, .string x.ml, .bool x.dis, .slice x.ga n x.gc] 37)) w.heap.size s x n := by
 refine ⟨by simp, ?_, ?_, ?_, ?_, ?_⟩
 all_goals
  rw [World.cell?_alloc_at _ _ _ _ rfl]
  rfl
theorem UsC11.of_heap {w W : World} {B n : Nat} {s : ByteArray} {x : W11} (hx : UsC11 w B s x n) (he : W.heap[B]? = w.heap[B]?) : UsC11 W B s x n := by
 have hB := hx.lt
 have hc : ∀ i, W.cell? ⟨B, i, none⟩ = w.cell? ⟨B, i, none⟩ := fun i => World.cell?_of_block he
 refine ⟨?_, (hc 0).trans hx.c0, (hc 1).trans hx.c1, (hc 2).trans hx.c2, (hc 3).trans hx.c3, (hc 4).trans hx.c4⟩
 rw [Array.getElem?_eq_getElem hB] at he
 exact (Array.getElem?_eq_some_iff.1 he).1
theorem UsC11.below_at {w W : World} {B m : Nat} {s : ByteArray} {x : W11} (hx : UsC11 w B s x m) {n : Nat} (hn : B < n) (hb : Below n w W) : UsC11 W B s x m := hx.of_heap (hb.block B hn)

def KeepsO11 (v : Value) (w w' : World) : Prop := ∀ k, k < w.heap.size → some k ≠ v.ownBlock → w'.heap[k]? = w.heap[k]?

theorem own11_app {w1 wr w2 : World} {v v2 : Value} {L : RowV W11} {o : Obj} {q : List UInt8 × W11} (hb : Below w1.heap.size w1 wr) (hu : wr.ownsRow w1.heap.size 37 5 v L.length (L.flatMap cu11)) (ho : w2.ownsRow w1.heap.size 37 5 v2 (L.length + 1) (L.flatMap cu11 ++ cu11 q)) (hg : (wr.alloc o).grownBy w2 v.ownBlock) :
  Below w1.heap.size w1 w2 ∧ w2.ownsRow w1.heap.size 37 5 v2 (L ++ [q]).length ((L ++ [q]).flatMap cu11) ∧ KeepsO11 v wr w2 := by
 refine ⟨(below_next hb (below_alloc (Below.refl _ _) _)).grown hg (by have := hb.size; simp; omega) (fun j hj => (hu.lt j hj).1), ?_, ?_⟩
 ·
  rw [List.length_append, List.flatMap_append]
  simpa using ho
 ·
  intro k hk hne
  exact (hg.block k (by simp; omega) hne).trans (Below.heap_alloc _ _ k hk)

set_option maxRecDepth 100000 in
set_option maxHeartbeats 4000000 in
theorem rput11_calls (A : Option Addr) (c n : Nat) (L : RowV W11) (s : ByteArray) (x : W11) (w : World) (hn : n = L.length) (h12 : n ≤ 12) (hr : RiseV L) (hu : Us11r w (.slice A n c) L) :
  Calls Tryz.prog 93 #[.slice A n c, .agg #[.string s, .string x.hs, .string x.ml, .bool x.dis, .slice x.ga x.gs.length x.gc]] w fun e w' => ∃ v, e = .returned v ∧ Rw11 (putV L s.data.toList x) w' v ∧ Below w.heap.size w w' := by
 have hnot : ∀ (x : Bool) (w : World), (Op.unary .not (.bool x)).run Tryz.prog w = .ok (.bool (!x)) w := fun _ _ => rfl
 have HA := Lib.hid hu
 have HL := Lib.hid hn
 have HRI := Lib.hid hr
 clear hu hn hr
 obtain ⟨i0, hi, hz0, hz1, hz2⟩ := info_parts infoUser11
 have HB1 := Lib.hid (below_alloc (Below.refl w.heap.size w) (.cells #[.string s, .string x.hs, .string x.ml, .bool x.dis, .slice x.ga x.gs.length x.gc] 37))
 have HU0 : Hid (UsC11 (w.alloc (.cells #[.string s, .string x.hs, .string x.ml, .bool x.dis, .slice x.ga x.gs.length x.gc] 37)) w.heap.size s x x.gs.length) := usc11_new w s x x.gs.length
 go_enter Tryz.func93, Tryz.ntmps93
 go_wp2
 generalize w.alloc (.cells #[.string s, .string x.hs, .string x.ml, .bool x.dis, .slice x.ga x.gs.length x.gc] 37) = w1 at *
 have hblt : w.heap.size < w1.heap.size := HU0.out.lt
 generalize hub : w.heap.size = ub at *
 go_loopg [5, 6, 8, 11] n (fun gg s5 s6 _ s11 wr => ∃ k : Nat, k ≤ n ∧ n - k ≤ gg ∧ s11 = .int .i64 k ∧ s6 = .bool (doneV L s.data.toList k) ∧ Hid (Below w1.heap.size w1 wr) ∧ Hid (wr.ownsRow w1.heap.size 37 5 s5 (outV L s.data.toList x k).length ((outV L s.data.toList x k).flatMap cu11)))
 case atStart => exact ⟨0, Nat.zero_le _, by omega, rfl, rfl, Below.refl _ _, World.ownsRow_nil _ _ _ _⟩
 case round =>
  obtain ⟨k, hk, hg, rfl, rfl, HW, HU⟩ := hrel
  have hlen := outV_length L s.data.toList x k
  rw [← HL.out] at hlen
  have HUB := Lib.hid (HU0.out.below_at hblt HW.out)
  by_cases hlt : k < n
  ·
   have hltz : (k : Int) < (n : Int) := by omega
   have hkl : k < L.length := HL.out ▸ hlt
   have hbw : Below ub w wr := HB1.out.trans (HW.out.mono (Nat.le_of_lt hblt))
   obtain ⟨g, rfl, c0, c1, c2, c3, c4⟩ := (HA.out.later (hub ▸ hbw)).at_ k hkl
   obtain ⟨q1, q2, q3, q4⟩ := outV_step (h := x) (n := s.data.toList) HRI.out hkl
   have hst := doneV_step (n := s.data.toList) hkl
   have HQ1 := Lib.hid q1
   have HQ2 := Lib.hid q2
   have HQ3 := Lib.hid q3
   have HQ4 := Lib.hid q4
   have HST := Lib.hid hst
   have HTL : Hid ((tx10 L[k].1).data.toList = L[k].1) := tx10_list _
   have HUQ : Hid (cu11 L[k] = [.string (tx10 L[k].1), .string L[k].2.hs, .string L[k].2.ml, .bool L[k].2.dis, .slice L[k].2.ga L[k].2.gs.length L[k].2.gc]) := rfl
   have HUN : Hid (cu11 (s.data.toList, x) = [.string s, .string x.hs, .string x.ml, .bool x.dis, .slice x.ga x.gs.length x.gc]) := by
    show _ = _
    unfold cu11
    rw [tx10_back]
   clear q1 q2 q3 q4 hst hbw
   generalize hLk : L[k] = qk at *
   generalize tx10 qk.1 = nm at *
   generalize qk.2.hs = sh at *
   generalize qk.2.ml = sm at *
   generalize qk.2.dis = sd at *
   generalize qk.2.ga = sa at *
   generalize qk.2.gs.length = sn at *
   generalize qk.2.gc = sc at *
   have HLK := Lib.hid hLk
   clear hLk
   rw [← HTL.out] at HQ1 HQ2 HQ3 HQ4 HST
   have HLS : Hid (∀ b, bytesBefore nm.data.toList s.data.toList = b → ∀ b2, decide (nm.data.toList = s.data.toList) = b2 → (Op.bytesLess s.toList nm.toList || s.toList == nm.toList) = !b ∧ (nm.toList == s.toList) = b2) := fun b hb b2 hb2 => by
    rw [Lib.toList_data, Lib.toList_data, lessb10]
    refine ⟨?_, by rw [← hb2, Bool.eq_iff_iff]; simp⟩
    subst hb
    by_cases e : s.data.toList = nm.data.toList
    ·
     rw [e, before_irrefl]; simp
    ·
     rcases WideAt.bytes_total _ _ e with h' | h'
     ·
      rw [h', before_anti h']; simp
     ·
      rw [before_anti h', h']; simpa using e
   generalize hdn : doneV L s.data.toList k = dn at *
   have HDN := Lib.hid hdn
   clear hdn
   have HWV := Lib.hid (below_next HW.out (below_alloc (Below.refl wr.heap.size wr) (.cells #[.string nm, .string sh, .string sm, .bool sd, .slice sa sn sc] 37)))
   have HUV := Lib.hid (HU.out.alloc (.cells #[.string nm, .string sh, .string sm, .bool sd, .slice sa sn sc] 37))
   have HVC := Lib.hid (usc11_new wr nm ⟨sh, sm, sd, sa, [], sc⟩ sn)
   have HUC := Lib.hid (HUB.out.below_at (Nat.lt_of_lt_of_le hblt HW.out.size) (below_alloc (Below.refl wr.heap.size wr) (.cells #[.string nm, .string sh, .string sm, .bool sd, .slice sa sn sc] 37)))
   generalize hbb : bytesBefore nm.data.toList s.data.toList = bb at *
   generalize hee : decide (nm.data.toList = s.data.toList) = ee at *
   obtain ⟨hle, heq⟩ := HLS.out bb rfl ee rfl
   have HEE : Hid (∀ b, ee = b → decide (nm.data.toList = s.data.toList) = b) := fun b hb => by rw [hee, hb]
   have HBB : Hid (bytesBefore nm.data.toList s.data.toList = bb) := hbb
   clear hbb hee HLS
   have hul : ub < wr.heap.size := HUB.out.lt
   have u0 := HUB.out.c0
   have u1 := HUB.out.c1
   have u2 := HUB.out.c2
   have u3 := HUB.out.c3
   have u4 := HUB.out.c4
   cases dn with
   | true =>
    obtain ⟨e1, e2, e3⟩ := HQ4.out rfl
    have e2' : nm.data.toList ≠ s.data.toList := e2
    obtain rfl : ee = false := by rw [← HEE.out ee rfl]; exact decide_eq_false e2'
    have HE1 := Lib.hid e1
    clear e1 e2 e2' e3 hle HQ1 HQ2 HQ3 HQ4
    go_wp2_with (first
    | (at_builtin; refine wpList_append_own _ rfl _ _ 27 rfl w1.heap.size 37 i0 (.agg #[.string ⟨#[]⟩, .string ⟨#[]⟩, .string ⟨#[]⟩, .bool false, .slice none 0 0]) 5 80 Tryz.underlying27 hi hz0 hz1 hz2 rfl (by decide) _ _ _ rfl (HUV.out.alloc _) ⟨wr.heap.size + 1, 0, none⟩ 1 1 [.string nm, .string sh, .string sm, .bool sd, .slice sa sn sc] rfl rfl (fun j u hu => by rw [Addr.add_lit, Nat.zero_add, World.cell?_alloc_at _ _ _ _ (by simp)]; simpa using hu) (by simp [Value.oneCell']) (by unfold maxLen; omega) (by omega) (by have := HW.out.size; simp; omega) ?_; intro v2 w2 hown' hgrow _; have HOw2 := Lib.hid hown'; have HGw2 := Lib.hid hgrow; clear hown' hgrow)
    | fail)
    have ho := HOw2.out
    rw [← HUQ.out] at ho
    obtain ⟨r1, r2, _⟩ := own11_app HWV.out HUV.out ho HGw2.out
    have R1 := Lib.hid r1
    have R2 := Lib.hid r2
    clear r1 r2 ho
    go_roundg (n - (k + 1))
    case measure => omega
    case rel => exact ⟨k + 1, by omega, by omega, by go_num, by rw [HST.out]; rfl, R1, (show Hid _ from by rw [HE1.out]; exact R2.out)⟩
   | false =>
    cases bb with
    | true =>
     obtain ⟨e1, e2⟩ := HQ1.out rfl rfl
     have e2' : nm.data.toList ≠ s.data.toList := e2
     obtain rfl : ee = false := by rw [← HEE.out ee rfl]; exact decide_eq_false e2'
     have l1 : Op.bytesLess s.toList nm.toList = false := by
      rw [Lib.toList_data, Lib.toList_data, lessb10]; exact before_anti HBB.out
     have l2 : (s.toList == nm.toList) = false := by
      rw [Lib.toList_data, Lib.toList_data]; exact beq_eq_false_iff_ne.2 (fun e => e2' e.symm)
     have HE1 := Lib.hid e1
     clear e1 e2 e2' hle HQ1 HQ2 HQ3 HQ4
     go_wp2_with (first
     | (at_builtin; refine wpList_append_own _ rfl _ _ 27 rfl w1.heap.size 37 i0 (.agg #[.string ⟨#[]⟩, .string ⟨#[]⟩, .string ⟨#[]⟩, .bool false, .slice none 0 0]) 5 80 Tryz.underlying27 hi hz0 hz1 hz2 rfl (by decide) _ _ _ rfl (HUV.out.alloc _) ⟨wr.heap.size + 1, 0, none⟩ 1 1 [.string nm, .string sh, .string sm, .bool sd, .slice sa sn sc] rfl rfl (fun j u hu => by rw [Addr.add_lit, Nat.zero_add, World.cell?_alloc_at _ _ _ _ (by simp)]; simpa using hu) (by simp [Value.oneCell']) (by unfold maxLen; omega) (by omega) (by have := HW.out.size; simp; omega) ?_; intro v2 w2 hown' hgrow _; have HOw2 := Lib.hid hown'; have HGw2 := Lib.hid hgrow; clear hown' hgrow)
     | fail)
     have ho := HOw2.out
     rw [← HUQ.out] at ho
     obtain ⟨r1, r2, _⟩ := own11_app HWV.out HUV.out ho HGw2.out
     have R1 := Lib.hid r1
     have R2 := Lib.hid r2
     clear r1 r2 ho
     go_roundg (n - (k + 1))
     case measure => omega
     case rel => exact ⟨k + 1, by omega, by omega, by go_num, by rw [HST.out]; rfl, R1, (show Hid _ from by rw [HE1.out]; exact R2.out)⟩
    | false =>
     by_cases e : nm.data.toList = s.data.toList
     ·
      obtain rfl : ee = true := by rw [← HEE.out ee rfl]; exact decide_eq_true e
      have l2 : (s.toList == nm.toList) = true := by
       rw [Lib.toList_data, Lib.toList_data, e]; simp
      have e1 := HQ2.out rfl rfl e
      have HE1 := Lib.hid e1
      clear e1 e hle HQ1 HQ2 HQ3 HQ4
      go_wp2_with (first
      | (at_builtin; refine wpList_append_own _ rfl _ _ 27 rfl w1.heap.size 37 i0 (.agg #[.string ⟨#[]⟩, .string ⟨#[]⟩, .string ⟨#[]⟩, .bool false, .slice none 0 0]) 5 80 Tryz.underlying27 hi hz0 hz1 hz2 rfl (by decide) _ _ _ rfl (HUV.out.alloc _) ⟨wr.heap.size + 1, 0, none⟩ 1 1 [.string s, .string x.hs, .string x.ml, .bool x.dis, .slice x.ga x.gs.length x.gc] rfl rfl (fun j u hu => by rw [Addr.add_lit, Nat.zero_add, World.cell?_alloc_at _ _ _ _ (by simp)]; simpa using hu) (by simp [Value.oneCell']) (by unfold maxLen; omega) (by omega) (by have := HW.out.size; simp; omega) ?_; intro v2 w2 hown' hgrow _; have HOw2 := Lib.hid hown'; have HGw2 := Lib.hid hgrow; clear hown' hgrow; have hap := own11_app HWV.out HUV.out (by have ho := HOw2.out; rw [← HUN.out] at ho; exact ho) HGw2.out; have HR2 := Lib.hid hap.1; have HR3 := Lib.hid hap.2.1; have HVC2 := Lib.hid (HVC.out.of_heap (hap.2.2 _ HVC.out.lt (own_ne11 HU.out))); have HUC2 := Lib.hid (HU0.out.below_at hblt HR2.out); clear hap; have d0 := HVC2.out.c0; have d1 := HVC2.out.c1; have d2 := HVC2.out.c2; have d3 := HVC2.out.c3; have d4 := HVC2.out.c4; have x0 := HUC2.out.c0)
      | fail)
      have R1 := Lib.hid HR2.out
      have R2 := Lib.hid HR3.out
      go_roundg (n - (k + 1))
      case measure => omega
      case rel => exact ⟨k + 1, by omega, by omega, by go_num, by rw [HST.out]; rfl, R1, (show Hid _ from by rw [HE1.out]; exact R2.out)⟩
     ·
      obtain rfl : ee = false := by rw [← HEE.out ee rfl]; exact decide_eq_false e
      have l1 : Op.bytesLess s.toList nm.toList = true := by
       rw [Lib.toList_data, Lib.toList_data, lessb10]
       rcases WideAt.bytes_total _ _ e with h' | h'
       ·
        rw [HBB.out] at h'; cases h'
       ·
        exact h'
      have l2 : (s.toList == nm.toList) = false := by
       rw [Lib.toList_data, Lib.toList_data]; exact beq_eq_false_iff_ne.2 (fun e' => e e'.symm)
      have e1 := HQ3.out rfl rfl e
      have HE1 := Lib.hid e1
      clear e1 e hle HQ1 HQ2 HQ3 HQ4
      go_wp2_with (first
      | (at_builtin; refine wpList_append_own _ rfl _ _ 27 rfl w1.heap.size 37 i0 (.agg #[.string ⟨#[]⟩, .string ⟨#[]⟩, .string ⟨#[]⟩, .bool false, .slice none 0 0]) 5 80 Tryz.underlying27 hi hz0 hz1 hz2 rfl (by decide) _ _ _ rfl (HUV.out.alloc _) ⟨wr.heap.size + 1, 0, none⟩ 1 1 [.string s, .string x.hs, .string x.ml, .bool x.dis, .slice x.ga x.gs.length x.gc] rfl rfl (fun j u hu => by rw [Addr.add_lit, Nat.zero_add, World.cell?_alloc_at _ _ _ _ (by simp)]; simpa using hu) (by simp [Value.oneCell']) (by unfold maxLen; omega) (by omega) (by have := HW.out.size; simp; omega) ?_; intro v2 w2 hown' hgrow _; have HOw2 := Lib.hid hown'; have HGw2 := Lib.hid hgrow; clear hown' hgrow; have hap := own11_app HWV.out HUV.out (by have ho := HOw2.out; rw [← HUN.out] at ho; exact ho) HGw2.out; have HR2 := Lib.hid hap.1; have HR3 := Lib.hid hap.2.1; have HVC2 := Lib.hid (HVC.out.of_heap (hap.2.2 _ HVC.out.lt (own_ne11 HU.out))); have HUC2 := Lib.hid (HU0.out.below_at hblt HR2.out); clear hap; have d0 := HVC2.out.c0; have d1 := HVC2.out.c1; have d2 := HVC2.out.c2; have d3 := HVC2.out.c3; have d4 := HVC2.out.c4; have x0 := HUC2.out.c0)
      | (at_builtin; refine wpList_append_own _ rfl _ _ 27 rfl w1.heap.size 37 i0 (.agg #[.string ⟨#[]⟩, .string ⟨#[]⟩, .string ⟨#[]⟩, .bool false, .slice none 0 0]) 5 80 Tryz.underlying27 hi hz0 hz1 hz2 rfl (by decide) _ _ _ rfl (HOw2.out.alloc _) ⟨w2.heap.size, 0, none⟩ 1 1 [.string nm, .string sh, .string sm, .bool sd, .slice sa sn sc] rfl rfl (fun j u hu => by rw [Addr.add_lit, Nat.zero_add, World.cell?_alloc_at _ _ _ _ (by simp)]; simpa using hu) (by simp [Value.oneCell']) (by unfold maxLen; omega) (by omega) (by have := HR2.out.size; simp; omega) ?_; intro v3 w3 hown' hgrow _; have HOw3 := Lib.hid hown'; have HGw3 := Lib.hid hgrow; clear hown' hgrow)
      | fail)
      have ho := HOw3.out
      rw [← HUN.out, ← HUQ.out] at ho
      obtain ⟨r1, r2, _⟩ := own11_app (q := qk) HR2.out HR3.out (by rw [List.length_append, List.flatMap_append]; simpa using ho) HGw3.out
      have R1 := Lib.hid r1
      have R2 := Lib.hid r2
      clear r1 r2 ho
      go_roundg (n - (k + 1))
      case measure => omega
      case rel => exact ⟨k + 1, by omega, by omega, by go_num, by rw [HST.out]; rfl, R1, (show Hid _ from by rw [HE1.out]; exact R2.out)⟩
  ·
   have hltz : ¬ (k : Int) < (n : Int) := by omega
   obtain rfl : k = n := by omega
   have hend := outV_end (L := L) s.data.toList x
   rw [← HL.out] at hend
   have HEND := Lib.hid hend
   have HUN : Hid (cu11 (s.data.toList, x) = [.string s, .string x.hs, .string x.ml, .bool x.dis, .slice x.ga x.gs.length x.gc]) := by
    show _ = _
    unfold cu11
    rw [tx10_back]
   clear hend
   generalize doneV L s.data.toList k = dn at *
   have u0 := HUB.out.c0
   have u1 := HUB.out.c1
   have u2 := HUB.out.c2
   have u3 := HUB.out.c3
   have u4 := HUB.out.c4
   have HWW : Hid (∀ W, Below w1.heap.size w1 W → Below ub w W) := fun W hb => HB1.out.trans (hb.mono (Nat.le_of_lt hblt))
   cases dn with
   | true =>
    go_wp2
    go_ret
    refine ⟨_, rfl, ?_, HWW.out _ HW.out⟩
    rw [HEND.out]
    exact Rw11.of_own HU.out
   | false =>
    go_wp2_with (first
    | (at_builtin; refine wpList_append_own _ rfl _ _ 27 rfl w1.heap.size 37 i0 (.agg #[.string ⟨#[]⟩, .string ⟨#[]⟩, .string ⟨#[]⟩, .bool false, .slice none 0 0]) 5 80 Tryz.underlying27 hi hz0 hz1 hz2 rfl (by decide) _ _ _ rfl (HU.out.alloc _) ⟨wr.heap.size, 0, none⟩ 1 1 [.string s, .string x.hs, .string x.ml, .bool x.dis, .slice x.ga x.gs.length x.gc] rfl rfl (fun j u hu => by rw [Addr.add_lit, Nat.zero_add, World.cell?_alloc_at _ _ _ _ (by simp)]; simpa using hu) (by simp [Value.oneCell']) (by unfold maxLen; omega) (by omega) (by have := HW.out.size; simp; omega) ?_; intro v2 w2 hown' hgrow _; have HOw2 := Lib.hid hown'; have HGw2 := Lib.hid hgrow; clear hown' hgrow)
    | fail)
    go_ret
    have ho := HOw2.out
    rw [← HUN.out] at ho
    obtain ⟨r1, r2, _⟩ := own11_app HW.out HU.out ho HGw2.out
    refine ⟨_, rfl, ?_, HWW.out _ r1⟩
    rw [HEND.out]
    exact Rw11.of_own r2
theorem del_stepV {L : RowV W11} {n : List UInt8} {k : Nat} (hk : k < L.length) : delV (L.take (k + 1)) n = delV (L.take k) n ++ if L[k].1 = n then [] else [L[k]] := by rw [List.take_succ_eq_append_getElem hk, del_snocV]
theorem del_leV (L : RowV W11) (n : List UInt8) (k : Nat) : (delV (L.take k) n).length ≤ L.length := Nat.le_trans (List.length_filter_le _ _) (by simp; omega)

set_option maxRecDepth 100000 in
set_option maxHeartbeats 2000000 in
theorem rdrop11_calls (A : Option Addr) (c n : Nat) (L : RowV W11) (s : ByteArray) (w : World) (hn : n = L.length) (h12 : n ≤ 12) (hu : Us11r w (.slice A n c) L) :
  Calls Tryz.prog 94 #[.slice A n c, .string s] w fun e w' => ∃ v, e = .returned v ∧ Rw11 (delV L s.data.toList) w' v ∧ Below w.heap.size w w' := by
 have HA := Lib.hid hu
 have HL := Lib.hid hn
 clear hu hn
 obtain ⟨i0, hi, hz0, hz1, hz2⟩ := info_parts infoUser11
 go_enter Tryz.func94, Tryz.ntmps94
 go_wp2
 go_loopg [5, 7, 10] n (fun gg s5 _ s10 wr => ∃ k : Nat, k ≤ n ∧ n - k ≤ gg ∧ s10 = .int .i64 k ∧ Hid (Below w.heap.size w wr) ∧ Hid (wr.ownsRow w.heap.size 37 5 s5 (delV (L.take k) s.data.toList).length ((delV (L.take k) s.data.toList).flatMap cu11)))
 case atStart => exact ⟨0, Nat.zero_le _, by omega, rfl, Below.refl _ _, World.ownsRow_nil _ _ _ _⟩
 case round =>
  obtain ⟨k, hk, hg, rfl, HW, HU⟩ := hrel
  have hlen := del_leV L s.data.toList k
  rw [← HL.out] at hlen
  by_cases hlt : k < n
  ·
   have hltz : (k : Int) < (n : Int) := by omega
   have hkl : k < L.length := HL.out ▸ hlt
   obtain ⟨g, rfl, c0, c1, c2, c3, c4⟩ := (HA.out.later HW.out).at_ k hkl
   have hst := del_stepV (n := s.data.toList) hkl
   have HWV := Lib.hid (below_next HW.out (below_alloc (Below.refl wr.heap.size wr) (.cells #[.string (tx10 L[k].1), .string L[k].2.hs, .string L[k].2.ml, .bool L[k].2.dis, .slice L[k].2.ga L[k].2.gs.length L[k].2.gc] 37)))
   have HUV := Lib.hid (HU.out.alloc (.cells #[.string (tx10 L[k].1), .string L[k].2.hs, .string L[k].2.ml, .bool L[k].2.dis, .slice L[k].2.ga L[k].2.gs.length L[k].2.gc] 37))
   have HUQ : Hid (cu11 L[k] = [.string (tx10 L[k].1), .string L[k].2.hs, .string L[k].2.ml, .bool L[k].2.dis, .slice L[k].2.ga L[k].2.gs.length L[k].2.gc]) := rfl
   by_cases he : L[k].1 = s.data.toList
   ·
    rw [if_pos he, List.append_nil] at hst
    have hs : tx10 L[k].1 = s := tx11_eq he
    have n2 : (s.toList == s.toList) = true := by simp
    rw [hs] at c0 HWV HUV
    have HST := Lib.hid hst
    clear hs hst he
    generalize L[k].2.hs = sh at *
    generalize L[k].2.ml = sm at *
    generalize L[k].2.dis = sd at *
    generalize L[k].2.ga = sa at *
    generalize L[k].2.gs.length = sn at *
    generalize L[k].2.gc = sc at *
    go_wp2
    go_roundg (n - (k + 1))
    case measure => omega
    case rel => exact ⟨k + 1, by omega, by omega, by go_num, HWV, (show Hid _ from by rw [HST.out]; exact HUV.out)⟩
   ·
    rw [if_neg he] at hst
    have n1 := tx11_ne he
    have n2 : ((tx10 L[k].1).toList == s.toList) = false := by simpa using n1
    have HST := Lib.hid hst
    clear hst he
    generalize L[k] = qk at *
    generalize tx10 qk.1 = nm at *
    generalize qk.2.hs = sh at *
    generalize qk.2.ml = sm at *
    generalize qk.2.dis = sd at *
    generalize qk.2.ga = sa at *
    generalize qk.2.gs.length = sn at *
    generalize qk.2.gc = sc at *
    go_wp2_with (first
     | (at_builtin; refine wpList_append_own _ rfl _ _ 27 rfl w.heap.size 37 i0 (.agg #[.string ⟨#[]⟩, .string ⟨#[]⟩, .string ⟨#[]⟩, .bool false, .slice none 0 0]) 5 80 Tryz.underlying27 hi hz0 hz1 hz2 rfl (by decide) _ _ _ rfl (HUV.out.alloc _) ⟨wr.heap.size + 1, 0, none⟩ 1 1 [.string nm, .string sh, .string sm, .bool sd, .slice sa sn sc] rfl rfl (fun j u hu => by rw [Addr.add_lit, Nat.zero_add, World.cell?_alloc_at _ _ _ _ (by simp)]; simpa using hu) (by simp [Value.oneCell']) (by unfold maxLen; omega) (by omega) (by have := HW.out.size; simp; omega) ?_; intro v2 w2 hown' hgrow _; have HO2 := Lib.hid hown'; have HG2 := Lib.hid hgrow; clear hown' hgrow)
     | fail)
    have ho := HO2.out
    rw [← HUQ.out] at ho
    obtain ⟨r1, r2, _⟩ := own11_app HWV.out HUV.out ho HG2.out
    have R1 := Lib.hid r1
    have R2 := Lib.hid r2
    clear r1 r2 ho
    go_roundg (n - (k + 1))
    case measure => omega
    case rel => exact ⟨k + 1, by omega, by omega, by go_num, R1, (show Hid _ from by rw [HST.out]; exact R2.out)⟩
  ·
   have hltz : ¬ (k : Int) < (n : Int) := by omega
   obtain rfl : k = n := by omega
   have hu := HU.out
   rw [List.take_of_length_le (by have := HL.out; omega)] at hu
   have HF := Lib.hid (Rw11.of_own hu)
   clear hu
   go_wp2
   go_ret
   exact ⟨_, rfl, HF.out, HW.out⟩

end Go.Proofs.YthlgmkfofebbfaaGreatDoor

