/-
  What this law alone needs, the law walked, and its statement.
  Conditions: each theorem's own.
-/
import Derived.Test.YthlgmkfofebbfaaGreatDoorRows
import Derived.Test.YthlgmkfofebbfaaGreatDoorCards
import Derived.Test.YthlgmkfofebbfaaGreatDoorTie
import Derived.Test.YthlgmkfofebbfaaGreatDoorNwrApBA
import Derived.Test.YthlgmkfofebbfaaGreatDoorNwrApBB
import Derived.Test.YthlgmkfofebbfaaGreatDoorNwrApBC
import Derived.Test.YthlgmkfofebbfaaGreatDoorNwrApBD
import Derived.Test.YthlgmkfofebbfaaGreatDoorNwrApBE
import Derived.Test.YthlgmkfofebbfaaGreatDoorNwrApBF
import Derived.Test.YthlgmkfofebbfaaGreatDoorNwrApBG
import Derived.Test.YthlgmkfofebbfaaGreatDoorNwrApBH
import Derived.Test.YthlgmkfofebbfaaGreatDoorNwrApBI
import Derived.Test.YthlgmkfofebbfaaGreatDoorNwrApBJ
namespace Go.Proofs.YthlgmkfofebbfaaGreatDoor
open Go.RowKit Go.Maps Go.Sort Go.Shelf
set_option linter.unusedVariables false

def Txs11 (w : World) (v : Value) (ls : List (List UInt8)) : Prop := ∃ A c, v = .slice A ls.length c ∧ ∀ j (h : j < ls.length), ∃ g, A = some ⟨g, 0, none⟩ ∧ w.cell? ⟨g, j, none⟩ = some (.string (tx10 ls[j]))
theorem Txs11.later {w w' : World} {v : Value} {ls : List (List UInt8)} (h : Txs11 w v ls) (hb : Below w.heap.size w w') : Txs11 w' v ls := by
 obtain ⟨A, c, e, hc⟩ := h
 exact ⟨A, c, e, fun j hj => by obtain ⟨g, e, h⟩ := hc j hj; exact ⟨g, e, (hb.cell (p := ⟨g, j, none⟩) (World.block_lt_of_cell? w _ h)).trans h⟩⟩
theorem Txs11.nil (w : World) : Txs11 w (.slice none 0 0) [] := ⟨none, 0, rfl, fun _ h => absurd h (Nat.not_lt_zero _)⟩







section
variable {w0 w : World} {D P M G : Nat} {A : Acc11} {L : Row7} {S : Grs10}
end
end Go.Proofs.YthlgmkfofebbfaaGreatDoor


namespace Go.Proofs.YthlgmkfofebbfaaGreatDoor
open Go.RowKit Go.Maps Go.Sort Go.Shelf
set_option linter.unusedVariables false


section
variable {A : Acc11} {L : Row7} {S : Grs10} {k : Nat} {R : RowV W11}
end




end Go.Proofs.YthlgmkfofebbfaaGreatDoor


namespace Go.Proofs.YthlgmkfofebbfaaGreatDoor
open Go.RowKit Go.Maps
set_option linter.unusedVariables false

section
variable {A : Acc11} {L : Row7} {S : Grs10} {k : Nat} {R : RowV W11}
def lk11 (A : Acc11) (L : Row7) (S : Grs10) (n : List UInt8) : List UInt8 × U11 := if deE11 A n = 0 then (n, ⟨hasA A n, getE L n, disA A n, of10 S n⟩) else ([], ⟨[], [], false, []⟩)
theorem look_form11 {n : ByteArray} {w W : World} {v : Value} (h : Look11 A L S n w W v) : ∃ t x, v = uval11 t x ∧ NmR W (.slice x.ga x.gs.length x.gc) x.gs ∧ (t.data.toList, x.u) = lk11 A L S n.data.toList := by
 by_cases h0 : deE11 A n.data.toList = 0
 ·
  obtain ⟨ga, gc, e, hr⟩ := h.1 h0
  refine ⟨n, ⟨tx10 (hasA A n.data.toList), tx10 (getE L n.data.toList), disA A n.data.toList, ga, of10 S n.data.toList, gc⟩, e, NmR.of hr, ?_⟩
  unfold lk11
  rw [if_pos h0]
  unfold W11.u
  simp only [tx10_list]
 ·
  refine ⟨⟨#[]⟩, noW11, h.2 h0, NmR.nil _, ?_⟩
  unfold lk11
  rw [if_neg h0]
  rfl
end
theorem rc11_one (w : World) (t : ByteArray) (x : W11) (hg : NmR w (.slice x.ga x.gs.length x.gc) x.gs) : Rc11 0 [(t.data.toList, x)] (w.alloc (.cells #[.string t, .string x.hs, .string x.ml, .bool x.dis, .slice x.ga x.gs.length x.gc] 37)) (.slice (some ⟨w.heap.size, 0, none⟩) 1 1) := by
 refine ⟨⟨rfl, .inr ⟨w.heap.size, 1, _, rfl, Nat.zero_le _, (MapKept.heap_alloc w _).1, Nat.le_refl _, by decide, rfl, ?_⟩⟩, fun p hp => ?_⟩
 ·
  show _ = cu11 (t.data.toList, x) ++ []
  unfold cu11
  rw [tx10_back]
  rfl
 ·
  rw [List.mem_singleton.1 hp]
  exact hg.later (below_alloc (Below.refl _ _) _)
theorem same_one11 (t : ByteArray) (x y : W11) (W : World) (e : x.u = y.u) (hs : Short11 [(t.data.toList, x.u)]) (h1 : NmR W (.slice x.ga x.gs.length x.gc) x.gs) (h2 : NmR W (.slice y.ga y.gs.length y.gc) y.gs) :
  Calls Tryz.prog 16 #[.slice (some ⟨W.heap.size, 0, none⟩) 1 1, .slice (some ⟨W.heap.size + 1, 0, none⟩) 1 1] ((W.alloc (.cells #[.string t, .string x.hs, .string x.ml, .bool x.dis, .slice x.ga x.gs.length x.gc] 37)).alloc (.cells #[.string t, .string y.hs, .string y.ml, .bool y.dis, .slice y.ga y.gs.length y.gc] 37))
   (Tells5 true ((W.alloc (.cells #[.string t, .string x.hs, .string x.ml, .bool x.dis, .slice x.ga x.gs.length x.gc] 37)).alloc (.cells #[.string t, .string y.hs, .string y.ml, .bool y.dis, .slice y.ga y.gs.length y.gc] 37))) := by
 have r1 := (rc11_one W t x h1).later (below_alloc (Below.refl _ _) (.cells #[.string t, .string y.hs, .string y.ml, .bool y.dis, .slice y.ga y.gs.length y.gc] 37))
 have r2 := rc11_one (W.alloc (.cells #[.string t, .string x.hs, .string x.ml, .bool x.dis, .slice x.ga x.gs.length x.gc] 37)) t y (h2.later (below_alloc (Below.refl _ _) _))
 rw [show (W.alloc (.cells #[.string t, .string x.hs, .string x.ml, .bool x.dis, .slice x.ga x.gs.length x.gc] 37)).heap.size = W.heap.size + 1 by simp] at r2
 exact same11_calls _ _ _ _ [(t.data.toList, x.u)] _ r1 r2 rfl (by show [(t.data.toList, y.u)] = _; rw [e]) hs
end Go.Proofs.YthlgmkfofebbfaaGreatDoor


namespace Go.Proofs.YthlgmkfofebbfaaGreatDoor
open Go.RowKit Go.Maps
set_option linter.unusedVariables false

section
variable {A : Acc11} {L : Row7} {S : Grs10} {k : Nat}
theorem lk_of_get11 (hg : Good11 A L S k) {n : List UInt8} {u : U11} (h : getV (tell11 A L S) n = some u) : deE11 A n = 0 ∧ lk11 A L S n = (n, u) := by
 rw [tell_get hg.rise] at h
 cases ha : getV A n with
 | none => rw [ha] at h; cases h
 | some a =>
  rw [ha] at h
  injection h with h
  have hm := (getV_some hg.rise).1 ha
  have h0 : deE11 A n = 0 := by
   unfold deE11 deF11
   rw [show name5 n = true from (hg.nm _ hm).1, show hasV A n = true from hasV_iff.2 ⟨_, hm, rfl⟩]
   rfl
  refine ⟨h0, ?_⟩
  unfold lk11
  rw [if_pos h0, ← h]
  unfold hasA disA tell1
  rw [ha]
theorem has_of_zero11 {n : List UInt8} (h : deE11 A n = 0) : name5 n = true ∧ hasV A n = true := deF_zero h
theorem gone_find11 (hg : Good11 A L S k) {n m : List UInt8} (h0 : deE11 A n = 0) (hm : m = getE L n) (hne : m ≠ []) : fiE9 (deL11 A L n) m = 8 ∧ fiS9 (deL11 A L n) m = [] := by
 obtain ⟨M, hM⟩ := hg.mir
 have hin : (n, m) ∈ L := has_of_get hm.symm hne
 have hmay := hg.all _ hin
 have hml : mail5 m = true := hmay.2.1
 have hfo : fold5 m = m := hmay.2.2
 have hno : hasO (delE L n) m = false := by
  cases hh : hasO (delE L n) m with
  | false => rfl
  | true =>
   obtain ⟨q1, q2⟩ := mem_del.1 (hasO_mem hh)
   exact absurd (hM.one q1 hin) q2
 have h8 : fiE9 (deL11 A L n) m = 8 := by
  unfold fiE9 deL11
  rw [if_pos hml, if_pos h0, hfo, hno]; rfl
 refine ⟨h8, ?_⟩
 unfold fiS9
 rw [if_neg (by rw [h8]; decide)]
theorem again11 (hg : Good11 A L S k) {n : List UInt8} (h0 : deE11 A n = 0) : Good11 (deA11 A n) (deL11 A L n) (deS11 A S n) (k + 1) ∧ crE11 (deA11 A n) n [49] = 0 ∧ Good11 (crA11 (deA11 A n) n [49]) (deL11 A L n) (deS11 A S n) (k + 2) ∧ deE11 (crA11 (deA11 A n) n [49]) n = 0 ∧ lk11 (crA11 (deA11 A n) n [49]) (deL11 A L n) (deS11 A S n) n = (n, ⟨[49], [], false, []⟩) := by
 obtain ⟨hn, hh⟩ := has_of_zero11 h0
 have hg2 := (de_one11 hg n).1
 have hA : deA11 A n = delV A n := by unfold deA11; rw [if_pos h0]
 have hno : hasV (deA11 A n) n = false := by
  rw [hA]
  cases hq : hasV (delV A n) n with
  | false => rfl
  | true => exact absurd rfl (hasV_del.1 hq).2
 have hlt : (deA11 A n).length < 12 := by
  rw [hA]
  obtain ⟨p, hp, e⟩ := hasV_iff.1 hh
  have h1 : (delV A n).length < A.length := by
   unfold delV
   refine List.length_filter_lt_length_iff_exists.2 ⟨p, hp, ?_⟩
   simp [e]
  have := hg.few
  omega
 have hcr : crE11 (deA11 A n) n [49] = 0 := by
  unfold crE11
  rw [hn, show hash5 [49] = true by decide, hno, decide_eq_false (by omega)]
  rfl
 obtain ⟨hg3, ht3, _⟩ := cr_one hg2 n [49]
 have hget : getV (tell11 (crA11 (deA11 A n) n [49]) (deL11 A L n) (deS11 A S n)) n = some ⟨[49], [], false, []⟩ := by
  rw [ht3]
  unfold dcrL
  rw [cr_same, if_pos hcr, get_put11 (tell_rise hg2.rise), if_pos rfl]
 obtain ⟨h1, h2⟩ := lk_of_get11 hg3 hget
 exact ⟨hg2, hcr, hg3, h1, h2⟩
theorem rd_one11 (w : World) (t : ActN) : RdAN (w.alloc (.cells #[.int .u8 (t.kd : Int), .string t.nm, .string t.hs, .bool t.is_] 32)) (some ⟨w.heap.size, 0, none⟩) [t] := fun _ => by
 have h := act11_new w t.kd t.nm t.hs t.is_
 refine ⟨w.heap.size, 0, rfl, h.lt, fun i hi j u hu => ?_⟩
 obtain rfl : i = 0 := by simpa using hi
 have hu' : t.cells[j]? = some u := hu
 match j, hu' with
 | 0, hu' => injection hu' with hu'; subst hu'; exact h.c0
 | 1, hu' => injection hu' with hu'; subst hu'; exact h.c1
 | 2, hu' => injection hu' with hu'; subst hu'; exact h.c2
 | 3, hu' => injection hu' with hu'; subst hu'; exact h.c3
 | j + 4, hu' => simp [ActN.cells] at hu'
end
theorem Act11.keeps11 {W W' : World} {b kd : Nat} {x y : ByteArray} {z : Bool} (h : Act11 W b kd x y z) (hk : Keeps11 W W') : Act11 W' b kd x y z := hk _ _ _ _ h (by decide) (by decide) (by decide)
end Go.Proofs.YthlgmkfofebbfaaGreatDoor


namespace Go.Proofs.YthlgmkfofebbfaaGreatDoor
open Go.RowKit Go.Maps
set_option linter.unusedVariables false

theorem loop11_next {w0 W w5 : World} {D P M G Wb k : Nat} {A : Acc11} {L : Row7} {S : Grs10} {R : RowV W11} {x1 x2 : Value} {A1 A2 : Option Addr} {C1 C2 : Nat} (hx : Bx11 W Wb x1 x2) (h0 : w0.heap.size ≤ Wb) (hk : Keeps11 W w5) (ho : Own11 w0 w5 D P M G A L S) (hg : Good11 A L S k) (hr : Rc11 0 R w5 (.slice A1 R.length C1)) (hn : NmR w5 (.slice A2 (names10 S).length C2) (names10 S)) (hp : plainR R = tell11 A L S) :
  Loop11 w0 D P M G Wb k ((w5.setCell ⟨Wb, 0, none⟩ (.slice A1 R.length C1)).setCell ⟨Wb, 1, none⟩ (.slice A2 (names10 S).length C2)) := by
 have hx5 := hx.keeps11 hk
 have hkg : KeepD11 w5 ((w5.setCell ⟨Wb, 0, none⟩ (.slice A1 R.length C1)).setCell ⟨Wb, 1, none⟩ (.slice A2 (names10 S).length C2)) := (hx5.keep 0 _).trans ((hx5.set0 _).keep 1 _)
 exact ⟨A, L, S, R, A1, C1, A2, C2, (ho.cell11 hx5 h0 _).cell11 (hx5.set0 _) h0 _, hg, (hx5.set0 _).set1 _, hr.keepD11 hkg, hn.keepD11 hkg, hp⟩

end Go.Proofs.YthlgmkfofebbfaaGreatDoor


namespace Go.Proofs.YthlgmkfofebbfaaGreatDoor
open Go.RowKit Go.Maps
set_option linter.unusedVariables false

theorem short_one11 {T : Usr11} (hs : Short11 T) {n : List UInt8} {u : U11} (h : (n, u) ∈ T) : Short11 [(n, u)] :=
 ⟨by simp, fun p hp => by rw [List.mem_singleton.1 hp]; exact hs.nm _ h, fun p hp => by rw [List.mem_singleton.1 hp]; exact hs.hs _ h, fun p hp => by rw [List.mem_singleton.1 hp]; exact hs.ml _ h, fun p hp => by rw [List.mem_singleton.1 hp]; exact hs.gs _ h⟩

set_option maxRecDepth 100000 in
set_option maxHeartbeats 16000000 in
theorem apart11_walk (A : Option Addr) (c n : Nat) (l : List ActN) (ka : Nat) (an ah : ByteArray) (ai : Bool) (w : World) (hm : Len5 w) (hl : n = l.length) (hn : n ≤ 9223372036854775807) (hr : RdAN w A l) :
  Calls Tryz.prog 6 #[.slice A n c, .agg #[.int .u8 (ka : Int), .string an, .string ah, .bool ai]] w (Tells5 true w) := by
 have hbx := below_alloc (Below.refl w.heap.size w) (.cells #[.int .u8 (ka : Int), .string an, .string ah, .bool ai] 32)
 have HBX := Lib.hid hbx
 have HA0 := Lib.hid (act11_new w ka an ah ai)
 have HV : Hid (∀ W, Below w.heap.size w W → Calls Tryz.prog 7 #[] W (Tells5 true W)) := fun W hb => lives11_calls W (hm.later hb)
 have HNW : Hid (∀ W, Calls Tryz.prog 9 #[] W fun e w' => ∃ D P M G, e = .returned (.pointer (some ⟨D, 0, none⟩)) ∧ Own11 W w' D P M G [] [] []) := nnew11_calls
 have HF : Hid (∀ W, Below w.heap.size w W → Calls Tryz.prog 8 #[.slice A n c] W (Tells5 (few11L l) W)) := fun W hb => few11L_calls A c n l W hl hn (hr.later hb)
 have HF1 : Hid (∀ W : World, Calls Tryz.prog 8 #[.slice (some ⟨W.heap.size, 0, none⟩) 1 1] (W.alloc (.cells #[.int .u8 (ka : Int), .string an, .string ah, .bool ai] 32)) (Tells5 (few11L [⟨ka, an, ah, ai⟩]) (W.alloc (.cells #[.int .u8 (ka : Int), .string an, .string ah, .bool ai] 32)))) := fun W => few11L_calls (some ⟨W.heap.size, 0, none⟩) 1 1 [⟨ka, an, ah, ai⟩] (W.alloc (.cells #[.int .u8 (ka : Int), .string an, .string ah, .bool ai] 32)) rfl (by decide) (rd_one11 W ⟨ka, an, ah, ai⟩)
 have HFW : Hid (few11L l = true → n ≤ 60 ∧ ∀ t ∈ l, t.nm.size ≤ 50 ∧ t.hs.size ≤ 50) := fun h => ⟨by rw [hl]; exact few11L_len h, few11L_size h⟩
 have HFA : Hid (few11L [⟨ka, an, ah, ai⟩] = true → an.size ≤ 50 ∧ ah.size ≤ 50) := fun h => few11L_size h _ (List.mem_singleton.2 rfl)
 have HR := Lib.hid hr
 have HL := Lib.hid hl
 have H5 := Lib.hid hm
 clear hr hl hm hbx
 generalize few11L l = fw at *
 generalize few11L [⟨ka, an, ah, ai⟩] = fa at *
 have hzd : ∀ w : World, (zeroValue TD11).run Tryz.prog w = .ok (.agg #[.slice none 0 0, .slice none 0 0]) w := fun w => by kernel_rfl
 have hnot : ∀ (x : Bool) (w : World), (Op.unary .not (.bool x)).run Tryz.prog w = .ok (.bool (!x)) w := fun _ _ => rfl
 obtain ⟨Ab, hab⟩ : ∃ Ab, Ab = w.heap.size := ⟨_, rfl⟩
 rw [← hab] at HA0
 have HAB := Lib.hid hab
 clear hab
 go_enter Tryz.func6, Tryz.ntmps6
 go_wp2_with fail
 generalize w.alloc (.cells #[.int .u8 (ka : Int), .string an, .string ah, .bool ai] 32) = wb at *
 rw [← HAB.out]
 with_reducible refine (HV.out wb HBX.out).mono ?_
 rintro e w1 ⟨rfl, hb⟩
 have HB1 := Lib.hid (below_next HBX.out hb)
 have HA1 := Lib.hid (HA0.out.later hb)
 clear hb HA0 HBX
 go_wp2_with fail
 with_reducible refine (HF.out w1 HB1.out).mono ?_
 rintro e w2 ⟨rfl, hb⟩
 have HB2 := Lib.hid (below_next HB1.out hb)
 have HA2 := Lib.hid (HA1.out.later hb)
 clear hb HF HB1 HA1
 have BAD : Hid (∀ W, Below w.heap.size w W → Calls Tryz.prog 7 #[] W fun e w' => e = .returned (.bool true) ∧ Hid (Below w.heap.size w w')) := fun W hb => (HV.out W hb).mono fun e w' ⟨he, hb'⟩ => ⟨he, below_next hb hb'⟩
 clear HV
 cases fw with
 | false =>
  clear HF1
  go_wp2_with fail
  with_reducible refine (BAD.out w2 HB2.out).mono ?_
  rintro e w3 ⟨rfl, HB3⟩
  go_wp2
  go_ret
  exact ⟨rfl, HB3.out⟩
 | true =>
 obtain ⟨hn60, hsz⟩ := HFW.out rfl
 have HSZ := Lib.hid hsz
 clear HFW hsz
 have a0 := HA2.out.c0
 have a1 := HA2.out.c1
 have a2 := HA2.out.c2
 have a3 := HA2.out.c3
 have hal := HA2.out.lt
 have hbz := below_alloc (Below.refl w2.heap.size w2) (.cells #[.int .u8 (ka : Int), .string an, .string ah, .bool ai] 32)
 have HBZ := Lib.hid hbz
 have HF2 := Lib.hid (HF1.out w2)
 clear HF1 hbz
 go_wp2_with fail
 generalize w2.alloc (.cells #[.int .u8 (ka : Int), .string an, .string ah, .bool ai] 32) = w3 at *
 with_reducible refine HF2.out.mono ?_
 rintro e w4 ⟨rfl, hb⟩
 have HB4 := Lib.hid (below_next HB2.out (below_next HBZ.out hb))
 have HA4 := Lib.hid (HA2.out.later (below_next HBZ.out hb))
 clear hb HF2 HBZ a0 a1 a2 a3 hal HA2 HB2
 cases fa with
 | false =>
  go_wp2_with fail
  with_reducible refine (BAD.out w4 HB4.out).mono ?_
  rintro e w5 ⟨rfl, HB5⟩
  go_wp2
  go_ret
  exact ⟨rfl, HB5.out⟩
 | true =>
 obtain ⟨han, hah⟩ := HFA.out (by first | rfl | trivial)
 clear HFA BAD
 go_wp2_with fail
 with_reducible refine (HNW.out w4).mono ?_
 rintro e w5 ⟨D, P, M, G, rfl, ho⟩
 have HO := Lib.hid ho
 have HZB : Hid (w4.heap.size ≤ w5.heap.size) := ho.below.size
 have H52 := Lib.hid (H5.out.later HB4.out)
 have HAL := Lib.hid (HA4.out.lt)
 have HA5 := Lib.hid (HA4.out.later ho.below)
 clear HNW H5 ho HA4
 have HL0 : Hid (Loop11 w4 D P M G w5.heap.size 0 (w5.alloc (.cells #[.slice none 0 0, .slice none 0 0] TD11)) ∧ Act11 (w5.alloc (.cells #[.slice none 0 0, .slice none 0 0] TD11)) Ab ka an ah ai) := by
  have hb := below_alloc (Below.refl w5.heap.size w5) (.cells #[.slice none 0 0, .slice none 0 0] TD11)
  exact ⟨⟨[], [], [], [], none, 0, none, 0, HO.out.later hb, Good11.nil, bx11_new _ _ _, Rc11.nil _ _, NmR.nil _, rfl⟩, HA5.out.later hb⟩
 clear HO HA5
 go_wp2
 clear hzd
 generalize w5.alloc (.cells #[.slice none 0 0, .slice none 0 0] TD11) = w6 at *
 generalize w5.heap.size = Wb at *
 go_loopg [39] n (fun gg s39 wr => ∃ k : Nat, k ≤ n ∧ n - k ≤ gg ∧ s39 = .int .i64 k ∧ Hid (Loop11 w4 D P M G Wb k wr ∧ Act11 wr Ab ka an ah ai))
 case atStart => exact ⟨0, Nat.zero_le _, by omega, rfl, HL0⟩
 case round =>
  obtain ⟨k, hk, hg, rfl, HW⟩ := hrel
  by_cases hlt : k < n
  ·
   have hltz : (k : Int) < (n : Int) := by omega
   have hkl : k < l.length := HL.out ▸ hlt
   obtain ⟨HLW, HAW⟩ := HW.out
   obtain ⟨A0, L0, S0, R, A1, C1, A2, C2, ho, hgd, hx, hr1, hn1, hp1⟩ := HLW
   have HQ0 := Lib.hid HAW
   clear HAW
   obtain ⟨b, off, rfl, hb, hc⟩ := (HR.out.later (below_next HB4.out ho.below)) (by intro e; rw [e] at hkl; exact absurd hkl (Nat.not_lt_zero _))
   have c0 : wr.cell? ⟨b, off + k * 4, none⟩ = some (.int .u8 (l[k].kd : Int)) := hc k hkl 0 _ rfl
   have c1 : wr.cell? ⟨b, off + k * 4 + 1, none⟩ = some (.string l[k].nm) := hc k hkl 1 _ rfl
   have c2 : wr.cell? ⟨b, off + k * 4 + 2, none⟩ = some (.string l[k].hs) := hc k hkl 2 _ rfl
   have c3 : wr.cell? ⟨b, off + k * 4 + 3, none⟩ = some (.bool l[k].is_) := hc k hkl 3 _ rfl
   have hbv := below_alloc (Below.refl wr.heap.size wr) (.cells #[.int .u8 (l[k].kd : Int), .string l[k].nm, .string l[k].hs, .bool l[k].is_] 32)
   have HDO := Lib.hid (do11_calls R _ _ l[k].kd l[k].nm l[k].hs l[k].is_ _ (ho.later hbv) hgd (by omega) H52.out (hr1.later hbv) (hn1.later hbv) hp1 (HSZ.out _ (List.getElem_mem hkl)).1 (HSZ.out _ (List.getElem_mem hkl)).2)
   have HXV := Lib.hid (hx.later hbv)
   have HQV := Lib.hid (HQ0.out.later hbv)
   have HAV := Lib.hid (act11_new wr l[k].kd l[k].nm l[k].hs l[k].is_)
   have x0 := HXV.out.c0
   have x1 := HXV.out.c1
   have xl := hx.lt
   have av0 := HAV.out.c0
   have av1 := HAV.out.c1
   have av2 := HAV.out.c2
   have av3 := HAV.out.c3
   clear hc hb ho hx hr1 hn1 hp1 hgd hbv HW HAV
   generalize l[k].kd = kd at *
   generalize l[k].nm = nm at *
   generalize l[k].hs = hs at *
   generalize l[k].is_ = is_ at *
   generalize List.length R = nR at *
   generalize List.length (names10 S0) = nN at *
   clear hkl
   go_wp2_with fail
   with_reducible refine HDO.out.mono ?_
   rintro e w5 ⟨A5, L5, S5, R5, v1, v2, rfl, ho5, hg5, hr5, hn5, hp5, hk5, _⟩
   obtain ⟨a5, c5, rfl⟩ := hr5.rw.us.shape
   obtain ⟨a6, c6, rfl⟩ := hn5.shape
   have hx5 := HXV.out.keeps11 hk5
   have r0 := hx5.c0
   have r1 := hx5.c1
   have rf0 := hx5.f0
   have rf1 := hx5.f1
   have HQN := Lib.hid (((HQV.out.keeps11 hk5).other (show Ab ≠ Wb by have := HAL.out; have := HZB.out; omega) (.slice a5 R5.length c5) (i := 0)).other (show Ab ≠ Wb by have := HAL.out; have := HZB.out; omega) (.slice a6 (names10 S5).length c6) (i := 1))
   have HLN : Hid (Loop11 w4 D P M G Wb (k + 1) ((w5.setCell ⟨Wb, 0, none⟩ (.slice a5 R5.length c5)).setCell ⟨Wb, 1, none⟩ (.slice a6 (names10 S5).length c6))) := loop11_next HXV.out HZB.out hk5 ho5 hg5 hr5 hn5 hp5

   clear HQ0 HQV
   clear ho5 hg5 hr5 hn5 hp5 hk5 hx5 HXV HDO x0 x1 xl c0 c1 c2 c3 av0 av1 av2 av3
   generalize List.length R5 = nR5 at *
   generalize List.length (names10 S5) = nN5 at *
   go_wp2
   go_roundg (n - (k + 1))
   case measure => omega
   case rel => exact ⟨k + 1, by omega, by omega, by go_num, ⟨HLN.out, HQN.out⟩⟩
  ·
   have hltz : ¬ (k : Int) < (n : Int) := by omega
   obtain rfl : k = n := by omega
   obtain ⟨HLW, HAW⟩ := HW.out
   obtain ⟨A0, L0, S0, R, A1, C1, A2, C2, ho, hgd, hx, hr1, hn1, hp1⟩ := HLW
   have HPL := Lib.hid hp1
   have HGD := Lib.hid hgd
   have HO0 := Lib.hid ho
   have HX0 := Lib.hid hx
   have HR0 := Lib.hid hr1
   have HN0 := Lib.hid hn1
   have HQ0 := Lib.hid HAW
   have HAU := Lib.hid (nall11_calls ho hgd)
   have a0 := HAW.c0
   have a1 := HAW.c1
   have a2 := HAW.c2
   have hal := HAW.lt
   clear ho hgd hx hr1 hn1 hp1 HW HAW
   obtain ⟨r, hr0⟩ : ∃ r, r = ka % 11 := ⟨_, rfl⟩
   have hrem : (ka : Int).tmod 11 = (r : Int) := by rw [hr0]; rfl
   have hr11 : r < 11 := by rw [hr0]; exact Nat.mod_lt _ (by decide)
   have HRK := Lib.hid hr0
   clear hr0
   by_cases h67 : r = 6 ∨ r = 7
   ·
    rcases h67 with rfl | rfl
    all_goals
     go_wp2_with fail
     obtain ⟨who, hwho⟩ : ∃ x, x = an := ⟨_, rfl⟩
     have HWS : Hid (who.size ≤ 50) := by show _ ≤ _; rw [hwho]; omega
     have HWI : Hid ((if 8 ≤ ka % 11 then ah.data.toList else an.data.toList) = who.data.toList) := by show _ = _; rw [hwho]; exact if_neg (by have := HRK.out; omega)
     rw [← hwho]
     clear hwho

     with_reducible refine HAU.out.mono ?_
     rintro e w8 ⟨v8, R8, rfl, hr8, hp8, hb⟩
     have HO8 := Lib.hid (HO0.out.later hb)
     have HX8 := Lib.hid (HX0.out.later hb)
     have HR8 := Lib.hid (HR0.out.later hb)
     have HN8 := Lib.hid (HN0.out.later hb)
     have HQ8 := Lib.hid (HQ0.out.later hb)

     have HR1 : Hid (Rc11 0 R8 w8 v8) := hr8.low (Nat.zero_le _)
     have HP1 := Lib.hid hp8
     obtain ⟨a8, c8, rfl⟩ := HR1.out.rw.us.shape
     clear hr8 hp8 hb HAU HO0 HX0 HR0 HN0 HQ0 a0 a1 a2 hal
     obtain ⟨n8, hn8⟩ : ∃ m, m = R8.length := ⟨_, rfl⟩
     obtain ⟨nR, hnR⟩ : ∃ m, m = R.length := ⟨_, rfl⟩
     obtain ⟨nN, hnN⟩ : ∃ m, m = (names10 S0).length := ⟨_, rfl⟩
     rw [← hn8] at HR1 ⊢
     rw [← hnR] at HX8 HR8
     rw [← hnN] at HX8 HN8
     have HN8L := Lib.hid hn8
     have h812 : n8 ≤ 12 := by rw [hn8, ← plainR_len, HP1.out, tell_len]; exact HGD.out.few
     clear hn8 hnR hnN
     have a0 := HQ8.out.c0
     have a1 := HQ8.out.c1
     have a2 := HQ8.out.c2
     have a3 := HQ8.out.c3
     have hal := HQ8.out.lt
     have x0 := HX8.out.c0
     have x1 := HX8.out.c1
     have xl := HX8.out.lt
     have HSH : Hid (∀ j (hj : j < R8.length), Short11 [(R8[j].1, R8[j].2.u)]) := fun j hj => by
      have hin : (R8[j].1, R8[j].2.u) ∈ tell11 A0 L0 S0 := by rw [← HP1.out]; exact List.mem_map.2 ⟨R8[j], List.getElem_mem hj, rfl⟩
      exact short_one11 (short11 HGD.out) hin

     have HR9 := Lib.hid HR1.out
     have HO9 := Lib.hid HO8.out
     have HOT : Hid (∀ j (hj : j < R8.length), R8[j].1 ≠ who.data.toList → getV (tell11 A0 L0 S0) R8[j].1 = some R8[j].2.u) := fun j hj hne => by
      have hrt : RiseV (tell11 A0 L0 S0) := tell_rise HGD.out.rise
      have hin : (R8[j].1, R8[j].2.u) ∈ tell11 A0 L0 S0 := by rw [← HP1.out]; exact List.mem_map.2 ⟨R8[j], List.getElem_mem hj, rfl⟩
      exact (getV_some hrt).2 hin
     have HGK : Hid (Good11 A0 L0 S0 (k + 1)) := HGD.out.mono (Nat.le_succ _)
     clear HO8 HX8 HR8 HN8 HR1 HP1 HPL HGD HRK HQ8

     go_wp2
     try clear x0 x1 xl a0 a1 a2 a3 hal
     go_loopg [76] n8 (fun gg s76 wr => ∃ j : Nat, j ≤ n8 ∧ n8 - j ≤ gg ∧ s76 = .int .i64 j ∧ Hid (Below w8.heap.size w8 wr))
     case atStart => exact ⟨0, Nat.zero_le _, by omega, rfl, Below.refl _ _⟩
     case round =>
      obtain ⟨j, hj, hgg, rfl, HWR⟩ := hrel
      by_cases hjt : j < n8
      ·
       have hjz : (j : Int) < (n8 : Int) := by omega
       have hjl : j < R8.length := by have := HN8L.out; omega
       have HRJ := Lib.hid (HR9.out.later HWR.out)
       obtain ⟨g, rfl, d0, d1, d2, d3, d4⟩ := HRJ.out.rw.us.at_ j hjl
       have HGJ : Hid (NmR wr (.slice R8[j].2.ga R8[j].2.gs.length R8[j].2.gc) R8[j].2.gs) := HRJ.out.2 R8[j] (List.getElem_mem hjl)
       have HOJ := Lib.hid (HOT.out j hjl)
       have HSJ := Lib.hid (HSH.out j hjl)
       have HNL : Hid (R8[j].1.length ≤ 1000) := HSJ.out.nm _ (List.mem_singleton.2 rfl)
       have HTL : Hid ((tx10 R8[j].1).data.toList = R8[j].1) := tx10_list _
       rw [← HTL.out] at HOJ HSJ HNL
       clear HTL HRJ
       generalize tx10 R8[j].1 = nm at *
       generalize R8[j].2 = x8 at *
       obtain ⟨bh, bm, bd, ba, bg, bc⟩ := x8
       dsimp only at HGJ d1 d2 d3 d4
       obtain ⟨bl, hbl⟩ : ∃ m, m = bg.length := ⟨_, rfl⟩
       rw [← hbl] at HGJ d4
       have HBL := Lib.hid hbl
       clear hbl hjl
       have hb := below_alloc (Below.refl wr.heap.size wr) (.cells #[.string nm, .string bh, .string bm, .bool bd, .slice ba bl bc] 37)
       have HBW := Lib.hid (below_next HWR.out hb)
       have HGV := Lib.hid (HGJ.out.later hb)
       have HU1 : Hid (Blk5 (wr.alloc (.cells #[.string nm, .string bh, .string bm, .bool bd, .slice ba bl bc] 37)) wr.heap.size (.string nm) (.string bh) (.string bm) (.bool bd) (.slice ba bl bc)) := heap_alloc_new wr _
       clear hb HGJ
       by_cases hne : nm.data.toList = who.data.toList
       ·
        obtain ⟨e1, e2⟩ := eqs10 hne
        clear hne HOJ HSJ HNL
        go_wp2
        go_roundg (n8 - (j + 1))
        case measure => omega
        case rel => exact ⟨j + 1, by omega, by omega, by go_num, HBW⟩
       ·
        obtain ⟨e1, e2⟩ := nes10 hne
        obtain ⟨h0, hlk⟩ := lk_of_get11 HGK.out (HOJ.out hne)
        have HLK := Lib.hid (lookup11_calls nm (HO9.out.later HBW.out) HGK.out.grp (by rw [← size_list]; have := HNL.out; omega))
        rw [h0] at HLK
        have HQL := Lib.hid hlk
        clear hne h0 hlk HOJ HNL
        go_wp2_with fail
        generalize wr.alloc (.cells #[.string nm, .string bh, .string bm, .bool bd, .slice ba bl bc] 37) = wq at *
        generalize wr.heap.size = b1 at *
        with_reducible refine HLK.out.mono ?_
        rintro e w10 ⟨v10, rfl, hlk, hb⟩
        obtain ⟨t1, y1, rfl, hnm1, hq1⟩ := look_form11 hlk
        have HU2 := Lib.hid (blk_later11 HU1.out hb)
        have HB10 := Lib.hid (below_next HBW.out hb)
        have HG10 := Lib.hid (HGV.out.later hb)
        have HNM1 := Lib.hid hnm1
        rw [HQL.out] at hq1
        obtain ⟨rfl, hu1⟩ : t1 = nm ∧ W11.u y1 = W11.u ⟨bh, bm, bd, ba, bg, bc⟩ := by
         injection hq1 with e1 e2
         exact ⟨by rw [← tx10_back t1, ← tx10_back nm, e1], e2⟩
        have HUU := Lib.hid hu1.symm
        clear hlk hnm1 hq1 hu1 hb HLK HBW HGV HU1 HQL d0 d1 d2 d3 d4 e1 e2
        obtain ⟨ch, cm, cd, ca, cg, cc⟩ := y1
        unfold uval11
        dsimp only at HNM1 ⊢
        obtain ⟨cl, hcl⟩ : ∃ m, m = cg.length := ⟨_, rfl⟩
        rw [← hcl] at HNM1 ⊢
        have HCL := Lib.hid hcl
        clear hcl
        have hb := below_alloc (Below.refl w10.heap.size w10) (.cells #[.string t1, .string ch, .string cm, .bool cd, .slice ca cl cc] 37)
        have HB11 := Lib.hid (below_next HB10.out hb)
        have hu1 := blk_later11 HU2.out hb
        have hu2 : Blk5 (w10.alloc (.cells #[.string t1, .string ch, .string cm, .bool cd, .slice ca cl cc] 37)) w10.heap.size (.string t1) (.string ch) (.string cm) (.bool cd) (.slice ca cl cc) := heap_alloc_new w10 _
        have p0 : _ = some (.string t1 : Value) := hu1.at_ 0
        have p1 : _ = some (.string bh : Value) := hu1.at_ 1
        have p2 : _ = some (.string bm : Value) := hu1.at_ 2
        have p3 : _ = some (.bool bd : Value) := hu1.at_ 3
        have p4 : _ = some (.slice ba bl bc : Value) := hu1.at_ 4
        have lt1 := hu1.lt
        have HSU : Hid (∀ W : World, Below w10.heap.size w10 W → Calls Tryz.prog 16 #[.slice (some ⟨W.heap.size, 0, none⟩) 1 1, .slice (some ⟨W.heap.size + 1, 0, none⟩) 1 1] ((W.alloc (.cells #[.string t1, .string bh, .string bm, .bool bd, .slice ba bl bc] 37)).alloc (.cells #[.string t1, .string ch, .string cm, .bool cd, .slice ca cl cc] 37)) (Tells5 true ((W.alloc (.cells #[.string t1, .string bh, .string bm, .bool bd, .slice ba bl bc] 37)).alloc (.cells #[.string t1, .string ch, .string cm, .bool cd, .slice ca cl cc] 37)))) := fun W hb => by
         have := same_one11 t1 ⟨bh, bm, bd, ba, bg, bc⟩ ⟨ch, cm, cd, ca, cg, cc⟩ W HUU.out HSJ.out (by have := HG10.out.later hb; rw [HBL.out] at this; exact this) (by have := HNM1.out.later hb; rw [HCL.out] at this; exact this)
         rw [HBL.out, HCL.out]
         exact this
        have HSV := Lib.hid (HSU.out _ hb)
        have HB12 := Lib.hid (below_next (below_next HB11.out (below_alloc (Below.refl _ _) (.cells #[.string t1, .string bh, .string bm, .bool bd, .slice ba bl bc] 37))) (below_alloc (Below.refl _ _) (.cells #[.string t1, .string ch, .string cm, .bool cd, .slice ca cl cc] 37)))
        have hsz : (w10.alloc (.cells #[.string t1, .string ch, .string cm, .bool cd, .slice ca cl cc] 37)).heap.size = w10.heap.size + 1 := by simp
        rw [hsz] at HSV
        clear hb hu1 hu2 hsz HU2 HB10 HG10 HSU HNM1 HUU HSJ HCL HBL HB11
        go_wp2_with fail
        with_reducible refine HSV.out.mono ?_
        rintro e w13 ⟨rfl, hb⟩
        have HB13 := Lib.hid (below_next HB12.out hb)
        clear hb HSV p0 p1 p2 p3 p4 lt1 HB12
        go_wp2
        go_roundg (n8 - (j + 1))
        case measure => omega
        case rel => exact ⟨j + 1, by omega, by omega, by go_num, HB13⟩
      ·
       have hjz : ¬ (j : Int) < (n8 : Int) := by omega
       have HOA := Lib.hid (HO9.out.later HWR.out)
       have HLK := Lib.hid (lookup11_calls who HOA.out HGK.out.grp (by have := HWS.out; omega))
       clear HR9 HOT HSH HO9
       go_wp2_with fail
       with_reducible refine HLK.out.mono ?_
       rintro e w10 ⟨v10, rfl, hlk, hb⟩
       obtain ⟨t1, y1, rfl, _, hq1⟩ := look_form11 hlk
       have HOB := Lib.hid (HOA.out.later hb)
       clear hlk hb HLK HOA HWR
       by_cases h0 : deE11 A0 who.data.toList = 0
       case neg =>
        have HBE := Lib.hid (below_next HB4.out HOB.out.below)
        obtain ⟨ch, cm, cd, ca, cg, cc⟩ := y1
        clear hq1 HOB
        unfold uval11
        dsimp only
        generalize cg.length = cl at *
        generalize deE11 A0 who.data.toList = er at *
        have e1 : (er != 0) = true := by simpa using h0
        have e2 : (er == 0) = false := by simpa using h0
        have hb := below_alloc (Below.refl w10.heap.size w10) (.cells #[.string t1, .string ch, .string cm, .bool cd, .slice ca cl cc] 37)
        have HBF := Lib.hid (below_next HBE.out hb)
        clear hb HBE
        go_wp2
        go_ret
        exact ⟨rfl, HBF.out⟩
       obtain ⟨hg2, hcr, hg3, hz3, hlk3⟩ := again11 HGK.out h0
       have hm1 : y1.ml.data.toList = getE L0 who.data.toList := by
        unfold lk11 at hq1
        rw [if_pos h0] at hq1
        injection hq1 with _ e2
        exact congrArg U11.ml e2
       have HFM : Hid (y1.ml.data.toList ≠ [] → fiE9 (deL11 A0 L0 who.data.toList) y1.ml.data.toList = 8 ∧ fiS9 (deL11 A0 L0 who.data.toList) y1.ml.data.toList = []) := gone_find11 HGK.out h0 hm1
       have HML : Hid (y1.ml.size ≤ 9223372036854775807) := by
        have h1 : y1.ml.data.toList.length ≤ 1000 := by
         rw [hm1]
         cases hh : hasE L0 who.data.toList with
         | false => rw [getE_none hh]; simp
         | true => exact Nat.le_trans (mail5_len (HGK.out.all _ (hasE_mem hh)).2.1) (by decide)
        rw [size_list] at h1
        show _ ≤ _; omega
       rw [h0]
       have HG2 := Lib.hid hg2
       have HCR := Lib.hid hcr
       have HG3 := Lib.hid hg3
       have HZ3 := Lib.hid hz3
       have HL3 := Lib.hid hlk3
       have H0 := Lib.hid h0
       clear hg2 hcr hg3 hz3 hlk3 hq1 hm1 h0
       obtain ⟨ch, cm, cd, ca, cg, cc⟩ := y1
       unfold uval11
       dsimp only at HFM HML ⊢
       generalize cg.length = cl at *
       have hb := below_alloc (Below.refl w10.heap.size w10) (.cells #[.string t1, .string ch, .string cm, .bool cd, .slice ca cl cc] 37)
       have HDE := Lib.hid (delete11_calls who (HOB.out.later hb) HGK.out (by have := HWS.out; omega))
       rw [H0.out] at HDE
       have HU1 : Hid (Blk5 (w10.alloc (.cells #[.string t1, .string ch, .string cm, .bool cd, .slice ca cl cc] 37)) w10.heap.size (.string t1) (.string ch) (.string cm) (.bool cd) (.slice ca cl cc)) := heap_alloc_new w10 _
       clear hb HOB H0
       generalize deA11 A0 who.data.toList = AA at *
       generalize deL11 A0 L0 who.data.toList = LL at *
       generalize deS11 A0 S0 who.data.toList = SS at *
       go_wp2_with fail
       generalize w10.alloc (.cells #[.string t1, .string ch, .string cm, .bool cd, .slice ca cl cc] 37) = w11 at *
       generalize w10.heap.size = b1 at *
       with_reducible refine HDE.out.mono ?_
       rintro e w12 ⟨rfl, ho12, hk12⟩
       have HO12 := Lib.hid ho12
       have hu12 : Blk5 w12 b1 (.string t1) (.string ch) (.string cm) (.bool cd) (.slice ca cl cc) := hk12 _ _ _ _ HU1.out (by decide) (by decide) (by decide)
       have p2 : _ = some (.string cm : Value) := hu12.at_ 2
       have lt1 := hu12.lt
       have HU12 := Lib.hid hu12
       have HFI := Lib.hid (nfind11_calls cm ho12 HML.out (H52.out.later ho12.below))
       clear ho12 hk12 hu12 HDE HU1
       generalize fiE9 LL cm.data.toList = fe at *
       generalize fiS9 LL cm.data.toList = fs at *
       go_wp2_with fail
       with_reducible refine HFI.out.mono ?_
       rintro e w13 ⟨rfl, hb⟩
       have HO13 := Lib.hid (HO12.out.later hb)
       have hu13 := blk_later11 HU12.out hb
       clear p2 lt1
       have p2 : _ = some (.string cm : Value) := hu13.at_ 2
       have lt1 := hu13.lt
       have HCC := Lib.hid (create11_calls who ⟨#[49]⟩ HO13.out HG2.out (by have := HWS.out; omega) (by decide))
       have HCR2 : Hid (crE11 AA who.data.toList (ByteArray.mk #[49]).data.toList = 0) := HCR.out
       rw [HCR2.out] at HCC
       have HLL3 : Hid (lk11 (crA11 AA who.data.toList (ByteArray.mk #[49]).data.toList) LL SS who.data.toList = (who.data.toList, ⟨[49], [], false, []⟩)) := HL3.out
       have HZZ3 : Hid (deE11 (crA11 AA who.data.toList (ByteArray.mk #[49]).data.toList) who.data.toList = 0) := HZ3.out
       have HGG3 : Hid (Good11 (crA11 AA who.data.toList (ByteArray.mk #[49]).data.toList) LL SS (k + 1 + 2)) := HG3.out
       clear hb hu13 HFI HO12 HU12 HCR HCR2 HL3 HZ3 HG3 HO13
       generalize crA11 AA who.data.toList (ByteArray.mk #[49]).data.toList = A7 at *
       by_cases hcm : cm.data.toList = []
       ·
        obtain rfl : cm = ⟨#[]⟩ := by rw [← tx10_back cm, hcm]; rfl
        clear hcm HFM
        generalize tx7 fs = fx at *
        go_wp2_with fail
        with_reducible refine HCC.out.mono ?_
        rintro e w14 ⟨rfl, ho14, _⟩
        have HO14 := Lib.hid ho14
        have HLK := Lib.hid (lookup11_calls who ho14 HGG3.out.grp (by have := HWS.out; omega))
        rw [HZZ3.out] at HLK
        clear ho14 HCC p2 lt1
        go_wp2_with fail
        with_reducible refine HLK.out.mono ?_
        rintro e w15 ⟨v15, rfl, hlk, hb⟩
        obtain ⟨t2, y2, rfl, _, hq2⟩ := look_form11 hlk
        have HBE := Lib.hid (below_next HB4.out (HO14.out.later hb).below)
        rw [HLL3.out] at hq2
        obtain ⟨zh, zm, zd, za, zg, zc⟩ := y2
        injection hq2 with _ hq2
        unfold W11.u at hq2
        injection hq2 with h1 h2 h3 h4
        dsimp only at h1 h2 h3 h4
        obtain rfl : zh = ⟨#[49]⟩ := by rw [← tx10_back zh, h1]; rfl
        obtain rfl : zm = ⟨#[]⟩ := by rw [← tx10_back zm, h2]; rfl
        subst h3 h4
        have hb2 := below_alloc (Below.refl w15.heap.size w15) (.cells #[.string t2, .string ⟨#[49]⟩, .string ⟨#[]⟩, .bool false, .slice za 0 zc] 37)
        have HBF := Lib.hid (below_next HBE.out hb2)
        clear hlk hb hb2 HLK HO14 HBE
        unfold uval11
        dsimp only [List.length_nil]
        go_wp2
        go_ret
        exact ⟨rfl, HBF.out⟩
       ·
        obtain ⟨rfl, rfl⟩ := HFM.out hcm
        have e3 : ¬ cm.toList = [] := by rw [Lib.toList_data]; exact hcm
        have e1 : (cm.toList != []) = true := by simpa using e3
        have e2 : (cm.toList == []) = false := by simpa using e3
        have HTX : Hid (tx7 [] = ⟨#[]⟩) := rfl
        rw [HTX.out]
        clear hcm HFM HTX
        go_wp2_with fail
        with_reducible refine HCC.out.mono ?_
        rintro e w14 ⟨rfl, ho14, _⟩
        have HO14 := Lib.hid ho14
        have HLK := Lib.hid (lookup11_calls who ho14 HGG3.out.grp (by have := HWS.out; omega))
        rw [HZZ3.out] at HLK
        clear ho14 HCC p2 lt1
        go_wp2_with fail
        with_reducible refine HLK.out.mono ?_
        rintro e w15 ⟨v15, rfl, hlk, hb⟩
        obtain ⟨t2, y2, rfl, _, hq2⟩ := look_form11 hlk
        have HBE := Lib.hid (below_next HB4.out (HO14.out.later hb).below)
        rw [HLL3.out] at hq2
        obtain ⟨zh, zm, zd, za, zg, zc⟩ := y2
        injection hq2 with _ hq2
        unfold W11.u at hq2
        injection hq2 with h1 h2 h3 h4
        dsimp only at h1 h2 h3 h4
        obtain rfl : zh = ⟨#[49]⟩ := by rw [← tx10_back zh, h1]; rfl
        obtain rfl : zm = ⟨#[]⟩ := by rw [← tx10_back zm, h2]; rfl
        subst h3 h4
        have hb2 := below_alloc (Below.refl w15.heap.size w15) (.cells #[.string t2, .string ⟨#[49]⟩, .string ⟨#[]⟩, .bool false, .slice za 0 zc] 37)
        have HBF := Lib.hid (below_next HBE.out hb2)
        clear hlk hb hb2 HLK HO14 HBE
        unfold uval11
        dsimp only [List.length_nil]
        go_wp2
        go_ret
        exact ⟨rfl, HBF.out⟩
   ·
    by_cases r8 : 8 ≤ r
    case' pos =>
     have y8 : (r : Int) ≥ 8 := by omega
     have y8' : decide ((r : Int) ≥ 8) = true := decide_eq_true y8
     have y6 : ¬ (r : Int) = 6 := by omega
     have y7 : ¬ (r : Int) = 7 := by omega
     have z6 : ((r : Int) != 6) = true := by simpa using y6
     have z7 : ((r : Int) != 7) = true := by simpa using y7

     go_wp2_with fail
     obtain ⟨who, hwho⟩ : ∃ x, x = ah := ⟨_, rfl⟩
     have HWS : Hid (who.size ≤ 50) := by show _ ≤ _; rw [hwho]; omega
     have HWI : Hid ((if 8 ≤ ka % 11 then ah.data.toList else an.data.toList) = who.data.toList) := by show _ = _; rw [hwho]; exact if_pos (by have := HRK.out; omega)
     rw [← hwho]
     clear hwho
    case' neg =>
     have y8 : ¬ (r : Int) ≥ 8 := by omega
     have y8' : decide ((r : Int) ≥ 8) = false := decide_eq_false y8
     have y6 : ¬ (r : Int) = 6 := by omega
     have y7 : ¬ (r : Int) = 7 := by omega
     have z6 : ((r : Int) != 6) = true := by simpa using y6
     have z7 : ((r : Int) != 7) = true := by simpa using y7

     go_wp2_with fail
     obtain ⟨who, hwho⟩ : ∃ x, x = an := ⟨_, rfl⟩
     have HWS : Hid (who.size ≤ 50) := by show _ ≤ _; rw [hwho]; omega
     have HWI : Hid ((if 8 ≤ ka % 11 then ah.data.toList else an.data.toList) = who.data.toList) := by show _ = _; rw [hwho]; exact if_neg (by have := HRK.out; omega)
     rw [← hwho]
     clear hwho
    all_goals
     with_reducible refine HAU.out.mono ?_
     rintro e w8 ⟨v8, R8, rfl, hr8, hp8, hb⟩
     have HO8 := Lib.hid (HO0.out.later hb)
     have HX8 := Lib.hid (HX0.out.later hb)
     have HR8 := Lib.hid (HR0.out.later hb)
     have HN8 := Lib.hid (HN0.out.later hb)
     have HQ8 := Lib.hid (HQ0.out.later hb)

     have HR1 : Hid (Rc11 0 R8 w8 v8) := hr8.low (Nat.zero_le _)
     have HP1 := Lib.hid hp8
     obtain ⟨a8, c8, rfl⟩ := HR1.out.rw.us.shape
     clear hr8 hp8 hb HAU HO0 HX0 HR0 HN0 HQ0 a0 a1 a2 hal
     obtain ⟨n8, hn8⟩ : ∃ m, m = R8.length := ⟨_, rfl⟩
     obtain ⟨nR, hnR⟩ : ∃ m, m = R.length := ⟨_, rfl⟩
     obtain ⟨nN, hnN⟩ : ∃ m, m = (names10 S0).length := ⟨_, rfl⟩
     rw [← hn8] at HR1 ⊢
     rw [← hnR] at HX8 HR8
     rw [← hnN] at HX8 HN8
     have HN8L := Lib.hid hn8
     have h812 : n8 ≤ 12 := by rw [hn8, ← plainR_len, HP1.out, tell_len]; exact HGD.out.few
     clear hn8 hnR hnN
     have a0 := HQ8.out.c0
     have a1 := HQ8.out.c1
     have a2 := HQ8.out.c2
     have a3 := HQ8.out.c3
     have hal := HQ8.out.lt
     have x0 := HX8.out.c0
     have x1 := HX8.out.c1
     have xl := HX8.out.lt
     have HSH : Hid (∀ j (hj : j < R8.length), Short11 [(R8[j].1, R8[j].2.u)]) := fun j hj => by
      have hin : (R8[j].1, R8[j].2.u) ∈ tell11 A0 L0 S0 := by rw [← HP1.out]; exact List.mem_map.2 ⟨R8[j], List.getElem_mem hj, rfl⟩
      exact short_one11 (short11 HGD.out) hin

     have HDO := Lib.hid (do11_calls R (.slice A1 nR C1) (.slice A2 nN C2) ka an ah ai w8 HO8.out HGD.out (by omega) H52.out HR8.out HN8.out HPL.out han hah)
     go_wp2_with fail
     with_reducible refine HDO.out.mono ?_
     rintro e w9 ⟨A5, L5, S5, R5, v1, v2, rfl, ho5, hg5, hr5, hn5, hp5, hk5, hot5⟩
     obtain ⟨a5, c5, rfl⟩ := hr5.rw.us.shape
     obtain ⟨a6, c6, rfl⟩ := hn5.shape
     have HO9 := Lib.hid ho5
     have HR9 := Lib.hid (HR1.out.keeps hk5)
     have HOT : Hid (∀ j (hj : j < R8.length), R8[j].1 ≠ who.data.toList → getV (tell11 A5 L5 S5) R8[j].1 = some R8[j].2.u) := fun j hj hne => by
      have hrt : RiseV (tell11 A0 L0 S0) := tell_rise HGD.out.rise
      have hin : (R8[j].1, R8[j].2.u) ∈ tell11 A0 L0 S0 := by rw [← HP1.out]; exact List.mem_map.2 ⟨R8[j], List.getElem_mem hj, rfl⟩
      have := hot5 (by have := HRK.out; omega) (by have := HRK.out; omega) R8[j].1 (by rw [show (if 8 ≤ ka % 11 then ah.data.toList else an.data.toList) = who.data.toList from HWI.out]; exact hne) (hasV_iff.2 ⟨_, hin, rfl⟩)
      rw [this]
      exact (getV_some hrt).2 hin
     have HGK : Hid (Good11 A5 L5 S5 (k + 1)) := hg5
     clear ho5 hg5 hr5 hn5 hp5 hk5 hot5 HDO HO8 HX8 HR8 HN8 HQ8 HR1 HP1 HPL HGD HRK
     clear a0 a1 a2 a3 hal x0 x1 xl
     generalize R5.length = nR5 at *
     generalize (names10 S5).length = nN5 at *

     go_wp2
     try clear x0 x1 xl a0 a1 a2 a3 hal
     go_loopg [76] n8 (fun gg s76 wr => ∃ j : Nat, j ≤ n8 ∧ n8 - j ≤ gg ∧ s76 = .int .i64 j ∧ Hid (Below w9.heap.size w9 wr))
     case atStart => exact ⟨0, Nat.zero_le _, by omega, rfl, Below.refl _ _⟩
     case round =>
      obtain ⟨j, hj, hgg, rfl, HWR⟩ := hrel
      by_cases hjt : j < n8
      ·
       have hjz : (j : Int) < (n8 : Int) := by omega
       have hjl : j < R8.length := by have := HN8L.out; omega
       have HRJ := Lib.hid (HR9.out.later HWR.out)
       obtain ⟨g, rfl, d0, d1, d2, d3, d4⟩ := HRJ.out.rw.us.at_ j hjl
       have HGJ : Hid (NmR wr (.slice R8[j].2.ga R8[j].2.gs.length R8[j].2.gc) R8[j].2.gs) := HRJ.out.2 R8[j] (List.getElem_mem hjl)
       have HOJ := Lib.hid (HOT.out j hjl)
       have HSJ := Lib.hid (HSH.out j hjl)
       have HNL : Hid (R8[j].1.length ≤ 1000) := HSJ.out.nm _ (List.mem_singleton.2 rfl)
       have HTL : Hid ((tx10 R8[j].1).data.toList = R8[j].1) := tx10_list _
       rw [← HTL.out] at HOJ HSJ HNL
       clear HTL HRJ
       generalize tx10 R8[j].1 = nm at *
       generalize R8[j].2 = x8 at *
       obtain ⟨bh, bm, bd, ba, bg, bc⟩ := x8
       dsimp only at HGJ d1 d2 d3 d4
       obtain ⟨bl, hbl⟩ : ∃ m, m = bg.length := ⟨_, rfl⟩
       rw [← hbl] at HGJ d4
       have HBL := Lib.hid hbl
       clear hbl hjl
       have hb := below_alloc (Below.refl wr.heap.size wr) (.cells #[.string nm, .string bh, .string bm, .bool bd, .slice ba bl bc] 37)
       have HBW := Lib.hid (below_next HWR.out hb)
       have HGV := Lib.hid (HGJ.out.later hb)
       have HU1 : Hid (Blk5 (wr.alloc (.cells #[.string nm, .string bh, .string bm, .bool bd, .slice ba bl bc] 37)) wr.heap.size (.string nm) (.string bh) (.string bm) (.bool bd) (.slice ba bl bc)) := heap_alloc_new wr _
       clear hb HGJ
       by_cases hne : nm.data.toList = who.data.toList
       ·
        obtain ⟨e1, e2⟩ := eqs10 hne
        clear hne HOJ HSJ HNL
        go_wp2
        go_roundg (n8 - (j + 1))
        case measure => omega
        case rel => exact ⟨j + 1, by omega, by omega, by go_num, HBW⟩
       ·
        obtain ⟨e1, e2⟩ := nes10 hne
        obtain ⟨h0, hlk⟩ := lk_of_get11 HGK.out (HOJ.out hne)
        have HLK := Lib.hid (lookup11_calls nm (HO9.out.later HBW.out) HGK.out.grp (by rw [← size_list]; have := HNL.out; omega))
        rw [h0] at HLK
        have HQL := Lib.hid hlk
        clear hne h0 hlk HOJ HNL
        go_wp2_with fail
        generalize wr.alloc (.cells #[.string nm, .string bh, .string bm, .bool bd, .slice ba bl bc] 37) = wq at *
        generalize wr.heap.size = b1 at *
        with_reducible refine HLK.out.mono ?_
        rintro e w10 ⟨v10, rfl, hlk, hb⟩
        obtain ⟨t1, y1, rfl, hnm1, hq1⟩ := look_form11 hlk
        have HU2 := Lib.hid (blk_later11 HU1.out hb)
        have HB10 := Lib.hid (below_next HBW.out hb)
        have HG10 := Lib.hid (HGV.out.later hb)
        have HNM1 := Lib.hid hnm1
        rw [HQL.out] at hq1
        obtain ⟨rfl, hu1⟩ : t1 = nm ∧ W11.u y1 = W11.u ⟨bh, bm, bd, ba, bg, bc⟩ := by
         injection hq1 with e1 e2
         exact ⟨by rw [← tx10_back t1, ← tx10_back nm, e1], e2⟩
        have HUU := Lib.hid hu1.symm
        clear hlk hnm1 hq1 hu1 hb HLK HBW HGV HU1 HQL d0 d1 d2 d3 d4 e1 e2
        obtain ⟨ch, cm, cd, ca, cg, cc⟩ := y1
        unfold uval11
        dsimp only at HNM1 ⊢
        obtain ⟨cl, hcl⟩ : ∃ m, m = cg.length := ⟨_, rfl⟩
        rw [← hcl] at HNM1 ⊢
        have HCL := Lib.hid hcl
        clear hcl
        have hb := below_alloc (Below.refl w10.heap.size w10) (.cells #[.string t1, .string ch, .string cm, .bool cd, .slice ca cl cc] 37)
        have HB11 := Lib.hid (below_next HB10.out hb)
        have hu1 := blk_later11 HU2.out hb
        have hu2 : Blk5 (w10.alloc (.cells #[.string t1, .string ch, .string cm, .bool cd, .slice ca cl cc] 37)) w10.heap.size (.string t1) (.string ch) (.string cm) (.bool cd) (.slice ca cl cc) := heap_alloc_new w10 _
        have p0 : _ = some (.string t1 : Value) := hu1.at_ 0
        have p1 : _ = some (.string bh : Value) := hu1.at_ 1
        have p2 : _ = some (.string bm : Value) := hu1.at_ 2
        have p3 : _ = some (.bool bd : Value) := hu1.at_ 3
        have p4 : _ = some (.slice ba bl bc : Value) := hu1.at_ 4
        have lt1 := hu1.lt
        have HSU : Hid (∀ W : World, Below w10.heap.size w10 W → Calls Tryz.prog 16 #[.slice (some ⟨W.heap.size, 0, none⟩) 1 1, .slice (some ⟨W.heap.size + 1, 0, none⟩) 1 1] ((W.alloc (.cells #[.string t1, .string bh, .string bm, .bool bd, .slice ba bl bc] 37)).alloc (.cells #[.string t1, .string ch, .string cm, .bool cd, .slice ca cl cc] 37)) (Tells5 true ((W.alloc (.cells #[.string t1, .string bh, .string bm, .bool bd, .slice ba bl bc] 37)).alloc (.cells #[.string t1, .string ch, .string cm, .bool cd, .slice ca cl cc] 37)))) := fun W hb => by
         have := same_one11 t1 ⟨bh, bm, bd, ba, bg, bc⟩ ⟨ch, cm, cd, ca, cg, cc⟩ W HUU.out HSJ.out (by have := HG10.out.later hb; rw [HBL.out] at this; exact this) (by have := HNM1.out.later hb; rw [HCL.out] at this; exact this)
         rw [HBL.out, HCL.out]
         exact this
        have HSV := Lib.hid (HSU.out _ hb)
        have HB12 := Lib.hid (below_next (below_next HB11.out (below_alloc (Below.refl _ _) (.cells #[.string t1, .string bh, .string bm, .bool bd, .slice ba bl bc] 37))) (below_alloc (Below.refl _ _) (.cells #[.string t1, .string ch, .string cm, .bool cd, .slice ca cl cc] 37)))
        have hsz : (w10.alloc (.cells #[.string t1, .string ch, .string cm, .bool cd, .slice ca cl cc] 37)).heap.size = w10.heap.size + 1 := by simp
        rw [hsz] at HSV
        clear hb hu1 hu2 hsz HU2 HB10 HG10 HSU HNM1 HUU HSJ HCL HBL HB11
        go_wp2_with fail
        with_reducible refine HSV.out.mono ?_
        rintro e w13 ⟨rfl, hb⟩
        have HB13 := Lib.hid (below_next HB12.out hb)
        clear hb HSV p0 p1 p2 p3 p4 lt1 HB12
        go_wp2
        go_roundg (n8 - (j + 1))
        case measure => omega
        case rel => exact ⟨j + 1, by omega, by omega, by go_num, HB13⟩
      ·
       have hjz : ¬ (j : Int) < (n8 : Int) := by omega
       have HOA := Lib.hid (HO9.out.later HWR.out)
       have HLK := Lib.hid (lookup11_calls who HOA.out HGK.out.grp (by have := HWS.out; omega))
       clear HR9 HOT HSH HO9
       go_wp2_with fail
       with_reducible refine HLK.out.mono ?_
       rintro e w10 ⟨v10, rfl, hlk, hb⟩
       obtain ⟨t1, y1, rfl, _, hq1⟩ := look_form11 hlk
       have HOB := Lib.hid (HOA.out.later hb)
       clear hlk hb HLK HOA HWR
       by_cases h0 : deE11 A5 who.data.toList = 0
       case neg =>
        have HBE := Lib.hid (below_next HB4.out HOB.out.below)
        obtain ⟨ch, cm, cd, ca, cg, cc⟩ := y1
        clear hq1 HOB
        unfold uval11
        dsimp only
        generalize cg.length = cl at *
        generalize deE11 A5 who.data.toList = er at *
        have e1 : (er != 0) = true := by simpa using h0
        have e2 : (er == 0) = false := by simpa using h0
        have hb := below_alloc (Below.refl w10.heap.size w10) (.cells #[.string t1, .string ch, .string cm, .bool cd, .slice ca cl cc] 37)
        have HBF := Lib.hid (below_next HBE.out hb)
        clear hb HBE
        go_wp2
        go_ret
        exact ⟨rfl, HBF.out⟩
       obtain ⟨hg2, hcr, hg3, hz3, hlk3⟩ := again11 HGK.out h0
       have hm1 : y1.ml.data.toList = getE L5 who.data.toList := by
        unfold lk11 at hq1
        rw [if_pos h0] at hq1
        injection hq1 with _ e2
        exact congrArg U11.ml e2
       have HFM : Hid (y1.ml.data.toList ≠ [] → fiE9 (deL11 A5 L5 who.data.toList) y1.ml.data.toList = 8 ∧ fiS9 (deL11 A5 L5 who.data.toList) y1.ml.data.toList = []) := gone_find11 HGK.out h0 hm1
       have HML : Hid (y1.ml.size ≤ 9223372036854775807) := by
        have h1 : y1.ml.data.toList.length ≤ 1000 := by
         rw [hm1]
         cases hh : hasE L5 who.data.toList with
         | false => rw [getE_none hh]; simp
         | true => exact Nat.le_trans (mail5_len (HGK.out.all _ (hasE_mem hh)).2.1) (by decide)
        rw [size_list] at h1
        show _ ≤ _; omega
       rw [h0]
       have HG2 := Lib.hid hg2
       have HCR := Lib.hid hcr
       have HG3 := Lib.hid hg3
       have HZ3 := Lib.hid hz3
       have HL3 := Lib.hid hlk3
       have H0 := Lib.hid h0
       clear hg2 hcr hg3 hz3 hlk3 hq1 hm1 h0
       obtain ⟨ch, cm, cd, ca, cg, cc⟩ := y1
       unfold uval11
       dsimp only at HFM HML ⊢
       generalize cg.length = cl at *
       have hb := below_alloc (Below.refl w10.heap.size w10) (.cells #[.string t1, .string ch, .string cm, .bool cd, .slice ca cl cc] 37)
       have HDE := Lib.hid (delete11_calls who (HOB.out.later hb) HGK.out (by have := HWS.out; omega))
       rw [H0.out] at HDE
       have HU1 : Hid (Blk5 (w10.alloc (.cells #[.string t1, .string ch, .string cm, .bool cd, .slice ca cl cc] 37)) w10.heap.size (.string t1) (.string ch) (.string cm) (.bool cd) (.slice ca cl cc)) := heap_alloc_new w10 _
       clear hb HOB H0
       generalize deA11 A5 who.data.toList = AA at *
       generalize deL11 A5 L5 who.data.toList = LL at *
       generalize deS11 A5 S5 who.data.toList = SS at *
       go_wp2_with fail
       generalize w10.alloc (.cells #[.string t1, .string ch, .string cm, .bool cd, .slice ca cl cc] 37) = w11 at *
       generalize w10.heap.size = b1 at *
       with_reducible refine HDE.out.mono ?_
       rintro e w12 ⟨rfl, ho12, hk12⟩
       have HO12 := Lib.hid ho12
       have hu12 : Blk5 w12 b1 (.string t1) (.string ch) (.string cm) (.bool cd) (.slice ca cl cc) := hk12 _ _ _ _ HU1.out (by decide) (by decide) (by decide)
       have p2 : _ = some (.string cm : Value) := hu12.at_ 2
       have lt1 := hu12.lt
       have HU12 := Lib.hid hu12
       have HFI := Lib.hid (nfind11_calls cm ho12 HML.out (H52.out.later ho12.below))
       clear ho12 hk12 hu12 HDE HU1
       generalize fiE9 LL cm.data.toList = fe at *
       generalize fiS9 LL cm.data.toList = fs at *
       go_wp2_with fail
       with_reducible refine HFI.out.mono ?_
       rintro e w13 ⟨rfl, hb⟩
       have HO13 := Lib.hid (HO12.out.later hb)
       have hu13 := blk_later11 HU12.out hb
       clear p2 lt1
       have p2 : _ = some (.string cm : Value) := hu13.at_ 2
       have lt1 := hu13.lt
       have HCC := Lib.hid (create11_calls who ⟨#[49]⟩ HO13.out HG2.out (by have := HWS.out; omega) (by decide))
       have HCR2 : Hid (crE11 AA who.data.toList (ByteArray.mk #[49]).data.toList = 0) := HCR.out
       rw [HCR2.out] at HCC
       have HLL3 : Hid (lk11 (crA11 AA who.data.toList (ByteArray.mk #[49]).data.toList) LL SS who.data.toList = (who.data.toList, ⟨[49], [], false, []⟩)) := HL3.out
       have HZZ3 : Hid (deE11 (crA11 AA who.data.toList (ByteArray.mk #[49]).data.toList) who.data.toList = 0) := HZ3.out
       have HGG3 : Hid (Good11 (crA11 AA who.data.toList (ByteArray.mk #[49]).data.toList) LL SS (k + 1 + 2)) := HG3.out
       clear hb hu13 HFI HO12 HU12 HCR HCR2 HL3 HZ3 HG3 HO13
       generalize crA11 AA who.data.toList (ByteArray.mk #[49]).data.toList = A7 at *
       by_cases hcm : cm.data.toList = []
       ·
        obtain rfl : cm = ⟨#[]⟩ := by rw [← tx10_back cm, hcm]; rfl
        clear hcm HFM
        generalize tx7 fs = fx at *
        go_wp2_with fail
        with_reducible refine HCC.out.mono ?_
        rintro e w14 ⟨rfl, ho14, _⟩
        have HO14 := Lib.hid ho14
        have HLK := Lib.hid (lookup11_calls who ho14 HGG3.out.grp (by have := HWS.out; omega))
        rw [HZZ3.out] at HLK
        clear ho14 HCC p2 lt1
        go_wp2_with fail
        with_reducible refine HLK.out.mono ?_
        rintro e w15 ⟨v15, rfl, hlk, hb⟩
        obtain ⟨t2, y2, rfl, _, hq2⟩ := look_form11 hlk
        have HBE := Lib.hid (below_next HB4.out (HO14.out.later hb).below)
        rw [HLL3.out] at hq2
        obtain ⟨zh, zm, zd, za, zg, zc⟩ := y2
        injection hq2 with _ hq2
        unfold W11.u at hq2
        injection hq2 with h1 h2 h3 h4
        dsimp only at h1 h2 h3 h4
        obtain rfl : zh = ⟨#[49]⟩ := by rw [← tx10_back zh, h1]; rfl
        obtain rfl : zm = ⟨#[]⟩ := by rw [← tx10_back zm, h2]; rfl
        subst h3 h4
        have hb2 := below_alloc (Below.refl w15.heap.size w15) (.cells #[.string t2, .string ⟨#[49]⟩, .string ⟨#[]⟩, .bool false, .slice za 0 zc] 37)
        have HBF := Lib.hid (below_next HBE.out hb2)
        clear hlk hb hb2 HLK HO14 HBE
        unfold uval11
        dsimp only [List.length_nil]
        go_wp2
        go_ret
        exact ⟨rfl, HBF.out⟩
       ·
        obtain ⟨rfl, rfl⟩ := HFM.out hcm
        have e3 : ¬ cm.toList = [] := by rw [Lib.toList_data]; exact hcm
        have e1 : (cm.toList != []) = true := by simpa using e3
        have e2 : (cm.toList == []) = false := by simpa using e3
        have HTX : Hid (tx7 [] = ⟨#[]⟩) := rfl
        rw [HTX.out]
        clear hcm HFM HTX
        go_wp2_with fail
        with_reducible refine HCC.out.mono ?_
        rintro e w14 ⟨rfl, ho14, _⟩
        have HO14 := Lib.hid ho14
        have HLK := Lib.hid (lookup11_calls who ho14 HGG3.out.grp (by have := HWS.out; omega))
        rw [HZZ3.out] at HLK
        clear ho14 HCC p2 lt1
        go_wp2_with fail
        with_reducible refine HLK.out.mono ?_
        rintro e w15 ⟨v15, rfl, hlk, hb⟩
        obtain ⟨t2, y2, rfl, _, hq2⟩ := look_form11 hlk
        have HBE := Lib.hid (below_next HB4.out (HO14.out.later hb).below)
        rw [HLL3.out] at hq2
        obtain ⟨zh, zm, zd, za, zg, zc⟩ := y2
        injection hq2 with _ hq2
        unfold W11.u at hq2
        injection hq2 with h1 h2 h3 h4
        dsimp only at h1 h2 h3 h4
        obtain rfl : zh = ⟨#[49]⟩ := by rw [← tx10_back zh, h1]; rfl
        obtain rfl : zm = ⟨#[]⟩ := by rw [← tx10_back zm, h2]; rfl
        subst h3 h4
        have hb2 := below_alloc (Below.refl w15.heap.size w15) (.cells #[.string t2, .string ⟨#[49]⟩, .string ⟨#[]⟩, .bool false, .slice za 0 zc] 37)
        have HBF := Lib.hid (below_next HBE.out hb2)
        clear hlk hb hb2 HLK HO14 HBE
        unfold uval11
        dsimp only [List.length_nil]
        go_wp2
        go_ret
        exact ⟨rfl, HBF.out⟩
end Go.Proofs.YthlgmkfofebbfaaGreatDoor


namespace Go.Proofs.YthlgmkfofebbfaaGreatDoor
open Go.ChangeShapes Go.WideShapes Go.ChangeAt Go.RowKit Go.Deep
set_option linter.unusedVariables false
set_option maxRecDepth 100000 in
theorem actn_arg {H : Type} {enc : TypeId × Value → H} {W : World} {base b0 : Nat} {sp : Nat → Bool} {hd : Bool} {v : Value} {d : DataW H} {p : List MemPlace} (hok : Value.okWide Tryz.prog W .any b0 32 v) (h : DataW.Trod enc Tryz.prog W base sp hd 32 v d p) :
  ∃ t : ActN, v = .agg t.cells.toArray ∧ t.kd < 256 ∧ t.nm.size ≤ 9223372036854775807 ∧ t.hs.size ≤ 9223372036854775807 := by
 obtain ⟨cs, rfl, _⟩ := okWide_struct Tryz.underlying32 hok
 obtain ⟨fuel, hf⟩ := h
 obtain ⟨t, hu, hk⟩ := actn_of hf
 exact ⟨t, by have e : cs.toList = t.cells := hu; rw [← e], hk⟩
end Go.Proofs.YthlgmkfofebbfaaGreatDoor


namespace Go.Proofs.YthlgmkfofebbfaaGreatDoor.newerApart
open Go.ChangeShapes Go.WideShapes Go.ChangeAt Go.RowKit
set_option linter.unusedVariables false

theorem own : ownKnob Tryz.prog.godebug = none := by kernel_rfl
theorem laidOut : laidOutB Tryz.prog = true := by kernel_rfl

theorem walk (w : World) (hm : Len5 w) (a0 : Option Addr) (len0 cap0 : Nat) (l0 : List ActN) (s0 : IsActsN w a0 len0 l0) (t1 : ActN) (s1 : t1.kd < 256 ∧ t1.nm.size ≤ 9223372036854775807 ∧ t1.hs.size ≤ 9223372036854775807) :
  Calls Tryz.prog 6 #[.slice a0 len0 cap0, .agg t1.cells.toArray] w fun e w' => e = .returned (.bool true) ∧ Below w.heap.size w w' := by
 obtain ⟨h1, h2, h3, h4⟩ := s0
 exact apart11_walk a0 cap0 len0 l0 t1.kd t1.nm t1.hs t1.is_ w hm h1 (by omega) h3

set_option maxRecDepth 100000 in
theorem lifted (os : Os) (started : os.Started) (H : Type) (enc : TypeId × Value → H) :
  ReturnsInHanded {} Tryz.checked os 6 .any (fun w args => (Rows.newerApartSpec.pre enc Tryz.prog Tryz.f6 Rows.newerApartRow.domain false w args ∧ laidMetH Tryz.prog Rows.newerApartRow.laid w) ∧ sizedMet enc Tryz.prog Tryz.f6 (OpenSpec.ofChange Rows.newerApartSpec) false w args)
   (Rows.newerApartSpec.post enc Tryz.prog Tryz.f6 false true false false) := by
 refine returns_laid (C := Tryz.checked) (X := fun w _ => laidMetH Tryz.prog Rows.newerApartRow.laid w) own started (by kernel_rfl) Tryz.func6
  (ChangeSpec.witness_shaped (enc := enc) (C := Tryz.checked) (os := os) (X := fun w _ => laidMetH Tryz.prog Rows.newerApartRow.laid w) false (World.laidAll Tryz.prog os Rows.newerApartRow.laid) #[.slice none 0 0, .agg #[.int .u8 0, .string ⟨#[]⟩, .string ⟨#[]⟩, .bool false]] 8 (World.laidAll_os _ _ _)
   (World.shaped_of_ZipB (by kernel_rfl) (by kernel_rfl)) (by kernel_rfl) (by kernel_rfl) (by kernel_rfl)
   (by rw [MakeChecks.laidMetH_plain _ _ _ (by kernel_rfl)]; exact laidMet_laidAll _ (by kernel_rfl) (by kernel_rfl))) ?_
 intro W base args ds gs before hval0 hW hsh
 have hval : ∀ (j : Nat) t v, Tryz.f6.params[j]? = some t → args[j]? = some v → Value.okWide Tryz.prog W .any base t v := hval0
 have hW' := hW
 obtain ⟨p, q, hA0, hV, rfl, hfz, hnd⟩ := hW
 have hA : DataW.TrodAll enc Tryz.prog W 0 (fun _ => true) true Tryz.f6.params.toList args.toList ds p := hA0
 rw [Tryz.params6] at hA hval
 obtain ⟨v0, vs0, d0, ds0, p0, q0, hargs, rfl, rfl, h0, r0⟩ := trodAll_cons hA
 obtain ⟨v1, vs1, d1, ds1, p1, q1, rfl, rfl, rfl, h1, r1⟩ := trodAll_cons r0
 obtain ⟨rfl, rfl, rfl⟩ := trodAll_nil r1
 obtain rfl : args = #[v0, v1] := by cases args; simp_all
 obtain ⟨rfl, rfl⟩ := trodVars_none hV
 obtain ⟨a0, len0, cap0, rfl⟩ := okWide_slice Tryz.underlying22 (hval 0 22 v0 rfl rfl)
 have lt0 : ∀ x ∈ p0, x.block < W.heap.size := by obtain ⟨m, hm⟩ := h0; exact DataW.trod_lt m _ _ _ hm
 obtain ⟨l0, s0⟩ := actns_of h0
 have lt1 : ∀ x ∈ p1, x.block < W.heap.size := by obtain ⟨m, hm⟩ := h1; exact DataW.trod_lt m _ _ _ hm
 obtain ⟨t1, rfl, s1⟩ := actn_arg (hval 1 32 v1 rfl rfl) h1
 clear hA0 hval0
 refine (walk W (len5_of hsh) a0 len0 cap0 l0 s0 t1 s1).mono fun e W' ⟨he, bel⟩ => ?_
 subst he
 exact ⟨_, rfl, _, _, _, [], _, [], hW', trodAll_mk1 (shut_bool Tryz.underlying4 _), (trodAll_cons_mk (Below.trod laidOut (by kernel_rfl) (of_decide_eq_true (by kernel_rfl)) h0 bel lt0) (trodAll_cons_mk (Below.trod laidOut (by kernel_rfl) (of_decide_eq_true (by kernel_rfl)) h1 bel lt1) trodAll_mk0)), rfl, bel.frame _, fun h => by cases h⟩

theorem row_holds : Rows.NewerApartSaid :=
 OpenClaim.holds_of_wide 6 Tryz.f6 rfl rfl rfl rfl rfl rfl rfl ⟨rfl, rfl, rfl, rfl, rfl⟩ rfl rfl rfl rfl rfl (by kernel_rfl) Tryz.func6 (by kernel_rfl)
  (of_decide_eq_true (by kernel_rfl)) (by unfold Func.isWrapper; first | (rw [if_pos (by decide +kernel)]; kernel_rfl) | (rw [if_neg (by decide +kernel)]; exact ⟨rfl, rfl⟩))
  (fun os started H enc _ => lifted os started H enc)

theorem proved : Rows.NewerApartCardSaid :=
 Claim7.holds_tied_plain_at .later [] Rows.newerApartCard.laidKinds true Rows.newerApartCard.stood.harness Rows.newerApartCard.stood.looks row_holds (fun _ h => by cases h) (by kernel_rfl) (fun _ h => by cases h) newerApart_row_tie rfl ⟨rfl, rfl⟩ (by kernel_rfl) rfl
  (fun f fn hf hfn => by
   obtain rfl : f = 6 := Option.some.inj ((show Tryz.prog.funcNamed Rows.newerApartRow.func = some 6 by kernel_rfl).symm.trans hf) |>.symm
   obtain rfl : fn = Tryz.f6 := (Option.some.inj (Tryz.func6.symm.trans hfn)).symm
   exact ⟨by kernel_rfl, fun j t ht => by
    rw [Tryz.params6] at ht
    have hm : t ∈ [22, 32] := by simpa using Array.mem_of_getElem? ht
    have hall : ([22, 32].all fun u => !Tryz.prog.wantsStandIn u) = true := by kernel_rfl
    exact (show Tryz.prog.wantsStandIn t = false by simpa using List.all_eq_true.1 hall t hm)⟩)
  (by kernel_rfl)
end Go.Proofs.YthlgmkfofebbfaaGreatDoor.newerApart
