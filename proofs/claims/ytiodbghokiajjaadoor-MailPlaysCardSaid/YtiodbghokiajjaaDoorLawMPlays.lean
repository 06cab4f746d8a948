/-
  MailPlays walked: behind any deeds each answer, each address and whose it is are the document's.
  Conditions: texts and rows are no longer than they may be.
-/
import Derived.Test.YtiodbghokiajjaaDoorMailRefB
import Derived.Test.YtiodbghokiajjaaDoorLawMBack
import Derived.Laws.Cover1
namespace Go.Proofs.YtiodbghokiajjaaDoor
open Go.RowKit Go.Maps

theorem slice9 (A : Option Addr) (m c cut : Nat) (h : cut ≤ c) (W : World) :
    (Instr.sliceAt 27 (.slice A m c) none (some (.int .i64 (cut : Int))) none).run Tryd.prog W = .ok (.slice A cut c) W := by
  have hu := Tryd.underlying27
  have h1 : (cut : Int) ≤ (c : Int) := by omega
  obtain ⟨i0, hi, hz0, hz1, hz2⟩ := info_parts infoPair9
  have he : Tryd.prog.underlying 27 = some (.slice (Tryd.prog.elem 27)) := by kernel_rfl
  rw [run_sliceAt_slice (P := Tryd.prog) W 27 _ none (some (.int .i64 (cut : Int))) none he]
  simp [Instr.slice, run_underlying hu, go_sem, sizeOf, typeInfo, hi, h1, Result.andThen]
theorem cap9 {L : Row7} {w : World} {A : Option Addr} {n c : Nat} (h : Row9 L w (.slice A n c)) : L.length ≤ c := by
  rcases h.2 with ⟨e, hz⟩ | ⟨g, cap, cur, e, _, _, r1, _⟩
  · omega
  · injection e with _ _ e
    omega
theorem take9 {L : Row7} {w : World} {A : Option Addr} {n c : Nat} (h : Pv9 w (.slice A n c) L) (k : Nat) : Pv9 w (.slice A (L.take k).length c) (L.take k) := by
  obtain ⟨A', c', e, hc⟩ := h
  injection e with e1 e2 e3
  subst e1 e3
  refine ⟨_, _, rfl, fun j hj => ?_⟩
  have hjl : j < L.length := by rw [List.length_take] at hj; omega
  obtain ⟨g, eg, h1, h2⟩ := hc j hjl
  refine ⟨g, eg, ?_, ?_⟩
  · rw [List.getElem_take]; exact h1
  · rw [List.getElem_take]; exact h2

/-- Block N is the act's variable. -/
def ActAt9 (W : World) (N kd : Nat) (nm hs : ByteArray) : Prop := W.heap[N]? = some (.cells #[.int .u8 (kd : Int), .string nm, .string hs] 29 (0, 0))
section
variable {W W' : World} {N kd : Nat} {nm hs : ByteArray}
theorem ActAt9.c0 (h : ActAt9 W N kd nm hs) : W.cell? ⟨N, 0, none⟩ = some (.int .u8 (kd : Int)) := by unfold ActAt9 at h; simp [World.cell?, h]
theorem ActAt9.c1 (h : ActAt9 W N kd nm hs) : W.cell? ⟨N, 1, none⟩ = some (.string nm) := by unfold ActAt9 at h; simp [World.cell?, h]
theorem ActAt9.c2 (h : ActAt9 W N kd nm hs) : W.cell? ⟨N, 2, none⟩ = some (.string hs) := by unfold ActAt9 at h; simp [World.cell?, h]
theorem ActAt9.later (h : ActAt9 W N kd nm hs) (hb : Below W.heap.size W W') : ActAt9 W' N kd nm hs := (hb.block N (Array.getElem?_eq_some_iff.1 h).1).trans h
theorem actat9_new (W : World) (kd : Nat) (nm hs : ByteArray) : ActAt9 (W.alloc (.cells #[.int .u8 (kd : Int), .string nm, .string hs] 29)) W.heap.size kd nm hs := (MapKept.heap_alloc W _).1
end
theorem few9_all {l : List Act7} (h : few9 l = true) : ∀ t ∈ l, t.nm.size ≤ 50 ∧ t.hs.size ≤ 50 := fun t ht => by
  unfold few9 at h
  rw [Bool.and_eq_true, List.all_eq_true] at h
  have := h.1 t ht
  unfold little9 at this
  simpa using this

/-- What the round's last region makes, operation by operation. -/
def YPl9 (x1 : Int) (B : Nat) (L : Row7) (A2 : Option Addr) (m c2 cut : Nat) (most mn : Int) (name gt : ByteArray) (is : Bool) (fn : ByteArray) (fe : Int) : Nat → Value → World → Prop
  | 0, v, _ => v = .int .i64 x1
  | 1, v, _ => v = .int .i64 x1
  | 4, v, _ => v = .pointer (some ⟨B, 0, none⟩)
  | 5, v, _ => v = .int .i64 m
  | 6, v, _ => v = .slice A2 m c2
  | 7, v, _ => v = .int .i64 m
  | 11, v, _ => v = .pointer (some ⟨B, 0, none⟩)
  | 12, v, W => Row9 L W v
  | 13, v, _ => v = .slice A2 m c2
  | 14, v, _ => v = .bool true
  | 18, v, _ => v = .pointer (some ⟨B, 0, none⟩)
  | 19, v, _ => v = .int .i64 most
  | 20, v, W => Row9 (L.take most.toNat) W v
  | 21, v, _ => v = .slice A2 m c2
  | 22, v, _ => v = .int .i64 most
  | 23, v, _ => v = .slice A2 m c2
  | 24, v, _ => v = .int .i64 m
  | 25, v, _ => v = .int .i64 mn
  | 26, v, _ => v = .int .i64 cut
  | 27, v, _ => v = .slice A2 cut c2
  | 28, v, _ => v = .bool true
  | 32, v, _ => v = .string gt
  | 33, v, _ => v = .slice A2 m c2
  | 34, v, _ => v = .string name
  | 35, v, _ => v = .string gt
  | 39, v, _ => v = .bool is
  | 40, v, _ => v = .string gt
  | 41, v, _ => v = .bool is
  | 45, v, _ => v = .string fn
  | 46, v, _ => v = .string fn
  | 50, v, _ => v = .int .i64 fe
  | 51, v, _ => v = .int .i64 fe
  | _, v, _ => v = .bool false
theorem YPl9_keep {x1 : Int} {B : Nat} {L : Row7} {A2 : Option Addr} {m c2 cut : Nat} {most mn : Int} {name gt : ByteArray} {is : Bool} {fn : ByteArray} {fe : Int} {W W' : World} (hb : Below W.heap.size W W') (j : Nat) (u : Value) (h : YPl9 x1 B L A2 m c2 cut most mn name gt is fn fe j u W) : YPl9 x1 B L A2 m c2 cut most mn name gt is fn fe j u W' := by
  by_cases h12 : j = 12
  · subst h12
    exact Row9.later (show Row9 L W u from h) hb
  by_cases h20 : j = 20
  · subst h20
    exact Row9.later (show Row9 (L.take most.toNat) W u from h) hb
  revert h
  unfold YPl9
  split <;> first | exact id | (exfalso; omega)

set_option maxHeartbeats 32000000 in
set_option maxRecDepth 100000 in
theorem mplays_walk (A : Option Addr) (c n : Nat) (l : List Act7) (name fnd : ByteArray) (most : Int) (w : World) (hl : n = l.length) (hn : n ≤ 9223372036854775807) (hr : RdA7 w A l) (h5 : Len5 w) :
    Calls Tryd.prog 3 #[.slice A n c, .string name, .string fnd, .int .i64 most] w (Tells5 true w) := by
  have hnot : ∀ (x : Bool) (w : World), (Op.unary .not (.bool x)).run Tryd.prog w = .ok (.bool (!x)) w := fun _ _ => rfl
  have HV : Hid (∀ W, Below w.heap.size w W → Calls Tryd.prog 6 #[] W (Tells5 true W)) := fun W hb => lives9_calls W (h5.later hb)
  have HNW : Hid (∀ W, Calls Tryd.prog 8 #[] W fun e w' => e = .returned (.pointer (some ⟨W.heap.size, 0, none⟩)) ∧ w' = W.alloc (.cells #[.map none, .map none] 54)) := fun W => new9_calls W
  have HF : Hid (∀ W, Below w.heap.size w W → Calls Tryd.prog 7 #[.slice A n c] W (Tells5 (few9 l) W)) := fun W hb => few9_calls A c n l W hl hn (hr.later hb)
  have HFW : Hid (few9 l = true → n ≤ 60 ∧ ∀ t ∈ l, t.nm.size ≤ 50 ∧ t.hs.size ≤ 50) := fun h => ⟨by rw [hl]; exact few9_len h, few9_all h⟩
  have HR := Lib.hid hr
  have HL := Lib.hid hl
  have H5 := Lib.hid h5
  clear hr hl h5
  generalize few9 l = q at *
  go_enter Tryd.func3, Tryd.ntmps3
  go_wp2_with fail
  with_reducible refine (HV.out w (Below.refl _ _)).mono ?_
  rintro e w1 ⟨rfl, hb⟩
  have HB1 := Lib.hid hb
  clear hb
  go_wp2_with fail
  with_reducible refine (HF.out w1 HB1.out).mono ?_
  rintro e w2 ⟨rfl, hb⟩
  have HB2 := Lib.hid (below_next HB1.out hb)
  clear hb HF HB1
  have BAD : Hid (∀ W, Below w.heap.size w W → Calls Tryd.prog 6 #[] W fun e w' => e = .returned (.bool true) ∧ Hid (Below w.heap.size w w')) := fun W hb => (HV.out W hb).mono fun e w' ⟨he, hb'⟩ => ⟨he, below_next hb hb'⟩
  clear HV
  cases q with
  | false =>
    go_wp2_with fail
    with_reducible refine (BAD.out w2 HB2.out).mono ?_
    rintro e w3 ⟨rfl, HB3⟩
    go_wp2
    go_ret
    exact ⟨rfl, HB3.out⟩
  | true =>
  obtain ⟨hn60, hsm⟩ := HFW.out rfl
  have HSM := Lib.hid hsm
  clear HFW hsm
  by_cases hp50 : name.size ≤ 50
  case neg =>
    have z : (name.size : Int) > 50 := by omega
    have z' : 50 < name.size := by omega
    have z2 : decide ((name.size : Int) > 50) = true := decide_eq_true z
    go_wp2_with fail
    with_reducible refine (BAD.out w2 HB2.out).mono ?_
    rintro e w3 ⟨rfl, HB3⟩
    go_wp2
    go_ret
    exact ⟨rfl, HB3.out⟩
  by_cases hm50 : fnd.size ≤ 50
  case neg =>
    have y : ¬ (name.size : Int) > 50 := by omega
    have y' : ¬ 50 < name.size := by omega
    have y2 : decide ((name.size : Int) > 50) = false := decide_eq_false y
    have z : (fnd.size : Int) > 50 := by omega
    have z' : 50 < fnd.size := by omega
    have z2 : decide ((fnd.size : Int) > 50) = true := decide_eq_true z
    go_wp2_with fail
    with_reducible refine (BAD.out w2 HB2.out).mono ?_
    rintro e w3 ⟨rfl, HB3⟩
    go_wp2
    go_ret
    exact ⟨rfl, HB3.out⟩
  have y : ¬ (name.size : Int) > 50 := by omega
  have y' : ¬ 50 < name.size := by omega
  have y2 : decide ((name.size : Int) > 50) = false := decide_eq_false y
  have z : ¬ (fnd.size : Int) > 50 := by omega
  have z' : ¬ 50 < fnd.size := by omega
  have z2 : decide ((fnd.size : Int) > 50) = false := decide_eq_false z
  clear BAD
  go_wp2_with fail
  with_reducible refine (HNW.out w2).mono ?_
  rintro e w3 ⟨rfl, rfl⟩
  have HO := Lib.hid (own9_new w2)
  generalize w2.alloc (.cells #[.map none, .map none] 54) = w3 at *
  generalize w2.heap.size = B at *
  clear HNW y y' y2 z z' z2
  go_wp2
  go_loopg [10, 44] n (fun gg s10 s44 wr => ∃ (k : Nat) (v : Value) (L : Row7), k ≤ n ∧ n - k ≤ gg ∧ s44 = .int .i64 k ∧ s10 = v ∧ Hid (Own9 w2 wr B L) ∧ Hid (L.length ≤ k) ∧ Hid (Row9 L wr v))
  case atStart => exact ⟨0, _, [], Nat.zero_le _, by omega, rfl, rfl, HO.out, by show _ ≤ _; simp, Row9.nil _⟩
  case round =>
    obtain ⟨k, v, L0, hk, hg, rfl, rfl, HW, HLN0, HRW⟩ := hrel
    by_cases hlt : k < n
    · have hltz : (k : Int) < (n : Int) := by omega
      have hkl : k < l.length := HL.out ▸ hlt
      have ho := HW.out
      have hlk := HLN0.out
      obtain ⟨b, off, rfl, hb, hc⟩ := (HR.out.later (below_next HB2.out ho.below)) (by intro e; rw [e] at hkl; exact absurd hkl (Nat.not_lt_zero _))
      have c0 : wr.cell? ⟨b, off + k * 3, none⟩ = some (.int .u8 (l[k].kd : Int)) := hc k hkl 0 _ rfl
      have c1 : wr.cell? ⟨b, off + k * 3 + 1, none⟩ = some (.string l[k].nm) := hc k hkl 1 _ rfl
      have c2 : wr.cell? ⟨b, off + k * 3 + 2, none⟩ = some (.string l[k].hs) := hc k hkl 2 _ rfl
      obtain ⟨hnm, hhs⟩ := HSM.out _ (List.getElem_mem hkl)
      have hg0 : Good9 L0 := ⟨ho.mir, ho.all, Nat.le_trans ho.few (by decide)⟩
      have hl1 : L0.length ≤ 1000 := by omega
      clear hc hb ho
      generalize l[k].kd = kd at *
      generalize l[k].nm = nm at *
      generalize l[k].hs = hs at *
      have hb1 := below_alloc (Below.refl wr.heap.size wr) (.cells #[.int .u8 (kd : Int), .string nm, .string hs] 29)
      obtain ⟨w4, hw4⟩ : ∃ w4, w4 = wr.alloc (.cells #[.int .u8 (kd : Int), .string nm, .string hs] 29) := ⟨_, rfl⟩
      obtain ⟨N, hN⟩ : ∃ N, N = wr.heap.size := ⟨_, rfl⟩
      have ha9 := actat9_new wr kd nm hs
      have ho4 := HW.out.later hb1
      have hr4 := HRW.out.later hb1
      rw [← hw4] at ha9 ho4 hr4
      rw [← hN] at ha9
      have HO1 := Lib.hid ho4
      have HR1 := Lib.hid hr4
      have HA1 := Lib.hid ha9
      obtain ⟨A1, cc1, rfl⟩ := HR1.out.shape
      have HW4 := Lib.hid hw4
      have HNN := Lib.hid hN
      have a0 := ha9.c0
      have a1 := ha9.c1
      have a2 := ha9.c2
      clear hb1 HW HRW ho4 hr4 ha9 hw4 hN
      obtain ⟨r, hr⟩ : ∃ r, r = kd % 5 := ⟨_, rfl⟩
      have hrem : (kd : Int).tmod 5 = (r : Int) := by rw [hr]; rfl
      have hr5 : r < 5 := by omega
      clear hr
      by_cases r2 : r = 2
      · subst r2
        have HOA : Hid (Calls Tryd.prog 9 #[.slice A1 L0.length cc1, .string nm] w4 fun e w' => e = .returned (.string (tx7 (getE L0 nm.data.toList))) ∧ Below w4.heap.size w4 w') := rof9_calls _ L0 nm w4 hl1 hg0.rise HR1.out
        have HPA : Hid (∀ W, Row9 L0 W (.slice A1 L0.length cc1) → Calls Tryd.prog 10 #[.slice A1 L0.length cc1, .string nm, .string ⟨#[]⟩] W fun e w' => ∃ v, e = .returned v ∧ Row9 (delE L0 nm.data.toList) w' v ∧ Below W.heap.size W w') := fun W hW => rdrop9_calls _ L0 nm W hl1 hW
        have HDA : Hid (∀ W, Own9 w2 W B L0 → Calls Tryd.prog 11 #[.pointer (some ⟨B, 0, none⟩), .string nm] W fun e w' => e = .returned (.bool (hasE L0 nm.data.toList)) ∧ Own9 w2 w' B (delE L0 nm.data.toList) ∧ Keeps9 W w') := fun W hW => hW.drop nm (by omega)
        have HLK : Hid ((delE L0 nm.data.toList).length ≤ k + 1) := Nat.le_trans (List.length_filter_le _ _) (by omega)
        cases hh : hasE L0 nm.data.toList with
        | false =>
          rw [getE_none hh, tx7_nil] at HOA
          rw [hh] at HDA
          clear hh hg0
          generalize delE L0 nm.data.toList = L at *
          go_wp2_with fail
          rw [← HW4.out, ← HNN.out]
          with_reducible refine HOA.out.mono ?_
          rintro e wa ⟨rfl, hba⟩
          have HOa := Lib.hid (HO1.out.later hba)
          have HAa := Lib.hid (HA1.out.later hba)
          have HPB := Lib.hid (HPA.out wa (HR1.out.later hba))
          clear hba a0 a1 a2 HOA HPA HO1 HR1 HA1
          have a1 := HAa.out.c1
          go_wp2_with fail
          with_reducible refine HPB.out.mono ?_
          rintro e wb ⟨va, rfl, hra, hba⟩
          have HOb := Lib.hid (HOa.out.later hba)
          have HAb := Lib.hid (HAa.out.later hba)
          have HDB := Lib.hid (HDA.out wb HOb.out)
          have HRb := Lib.hid hra
          obtain ⟨A2, c2, rfl⟩ := hra.shape
          clear hra hba a1 HPB HDA HOa HAa
          have a1 := HAb.out.c1
          go_wp2_with fail
          with_reducible refine HDB.out.mono ?_
          rintro e w5 ⟨rfl, ho, hkp⟩
          have HO5 := Lib.hid ho
          have HR5 := Lib.hid (HRb.out.keeps hkp)
          clear ho hkp HDB HOb HAb HRb a1
          have HPV : Hid (∀ W, Own9 w2 W B L → Calls Tryd.prog 17 #[.pointer (some ⟨B, 0, none⟩), .string name] W fun e w' => e = .returned (.tuple #[.string (tx7 (getE L name.data.toList)), .bool (hasE L name.data.toList)]) ∧ w' = W) := fun W hW => hW.of_ name (by omega)
          have HFX : Hid (∀ W, Own9 w2 W B L → Calls Tryd.prog 18 #[.pointer (some ⟨B, 0, none⟩), .string fnd] W fun e w' => e = .returned (.tuple #[.string (tx7 (fiS9 L fnd.data.toList)), .int .i64 (fiE9 L fnd.data.toList)]) ∧ Below W.heap.size W w') := fun W hW => hW.find fnd (by omega) (H5.out.later (below_next HB2.out hW.below))
          have hgood : Good9 L := ⟨HO5.out.mir, HO5.out.all, Nat.le_trans HO5.out.few (by decide)⟩
          have HFR : Hid (∀ W, Row9 L W (.slice A2 L.length c2) → Calls Tryd.prog 19 #[.slice A2 L.length c2, .string fnd] W fun e w' => e = .returned (.tuple #[.string (tx7 (fiS9 L fnd.data.toList)), .int .i64 (fiE9 L fnd.data.toList)]) ∧ Below W.heap.size W w') := fun W hW => rfind9_calls _ L fnd W hgood (by omega) hW
          have HOF : Hid (∀ W, Row9 L W (.slice A2 L.length c2) → Calls Tryd.prog 9 #[.slice A2 L.length c2, .string name] W fun e w' => e = .returned (.string (tx7 (getE L name.data.toList))) ∧ Below W.heap.size W w') := fun W hW => rof9_calls _ L name W (Nat.le_trans HO5.out.few (by decide)) hgood.rise hW
          have HLN : Hid (∀ W, Own9 w2 W B L → Calls Tryd.prog 20 #[.pointer (some ⟨B, 0, none⟩)] W fun e w' => e = .returned (.int .i64 L.length) ∧ w' = W) := fun W hW => hW.len
          have HGT : Hid (((tx7 (getE L name.data.toList)).toList != []) = hasE L name.data.toList ∧ (!(tx7 (getE L name.data.toList)).toList.isEmpty) = hasE L name.data.toList) := by
            show _ ∧ _
            cases hh : hasE L name.data.toList with
            | false => rw [getE_none hh, tx7_nil]; exact ⟨by rw [ByteArray.toList_eq]; rfl, by rw [ByteArray.toList_eq]; rfl⟩
            | true =>
              obtain ⟨t1, t2, _⟩ := tx7_some (hgood.has_ne hh)
              refine ⟨by simpa using t1, by rw [t2]; rfl⟩
          have HCP0 := cap9 HR5.out
          have HCT0 : Hid (∀ W, Row9 L W (.slice A2 L.length c2) → Pv9 W (.slice A2 (L.take most.toNat).length c2) (L.take most.toNat)) := fun W hW => take9 hW.pv most.toNat
          have HLL : Hid (L.length ≤ 1000) := Nat.le_trans HO5.out.few (by decide)
          have HCU : Hid ((L.take most.toNat).length = min most.toNat L.length) := List.length_take ..
          clear hgood
          generalize tx7 (getE L name.data.toList) = gt at *
          generalize hasE L name.data.toList = is at *
          generalize tx7 (fiS9 L fnd.data.toList) = fn at *
          generalize fiE9 L fnd.data.toList = fe at *
          have HCT : Hid (∀ W, Row9 L W (.slice A2 L.length c2) → Pv9 W (.slice A2 (L.take most.toNat).length c2) (L.take most.toNat)) := HCT0
          clear HCT0
          obtain ⟨cut, hcut⟩ : ∃ cut, cut = (L.take most.toNat).length := ⟨_, rfl⟩
          rw [← hcut] at HCT HCU
          obtain ⟨m, hm⟩ : ∃ m, m = L.length := ⟨_, rfl⟩
          rw [← hm] at HFR HOF HLN HCT HCU HR5 HCP0 ⊢
          have HMM := Lib.hid hm
          have HCP : Hid (cut ≤ c2) := Nat.le_trans (by rw [HCU.out]; exact Nat.min_le_right _ _) HCP0
          obtain ⟨mn, hmn⟩ : ∃ mn : Int, mn = min most (m : Int) := ⟨_, rfl⟩
          have HMN : Hid (min most (m : Int) = mn) := hmn.symm
          have HMX : Hid (max 0 mn = (cut : Int)) := by
            have h1 := HCU.out
            show _ = _
            rw [hmn, h1]
            omega
          have HGG : Hid ((gt.toList != gt.toList) = false ∧ (gt.toList == gt.toList) = true) := ⟨by simp, by simp⟩
          have HFF : Hid ((fn.toList != fn.toList) = false ∧ (fn.toList == fn.toList) = true) := ⟨by simp, by simp⟩
          have HII : Hid ((is != is) = false) := by show _ = _; simp
          clear hm hcut hmn HCP0
          have HPV5 := Lib.hid (HPV.out w5 HO5.out)
          have HFX5 := Lib.hid (HFX.out w5 HO5.out)
          go_wp2_with fail
          with_reducible refine HPV5.out.mono ?_
          rintro e w6 ⟨rfl, rfl⟩
          go_wp2_with fail
          with_reducible refine HFX5.out.mono ?_
          rintro e w7 ⟨rfl, hb⟩
          have HO7 := Lib.hid (HO5.out.later hb)
          have HR7 := Lib.hid (HR5.out.later hb)
          have HFR7 := Lib.hid (HFR.out w7 HR7.out)
          clear hb HPV HFX HFR HPV5 HFX5 HR5 HO5
          go_wp2_with fail
          with_reducible refine HFR7.out.mono ?_
          rintro e w8 ⟨rfl, hb⟩
          have HO8 := Lib.hid (HO7.out.later hb)
          have HR8 := Lib.hid (HR7.out.later hb)
          clear hb HFR7 HO7 HR7
          go_wp2_with fail
          refine wp_region_inv (by kernel_rfl) (fun W => Below w8.heap.size w8 W) (YPl9 0 B L A2 m c2 cut most mn name gt is fn fe) ?F0 ?hF0 (by kernel_rfl) (by kernel_rfl) (below_drew (Below.refl _ _)) ?step0 ?fin0
          case hF0 =>
            intro x
            simp only [List.map_cons, List.map_nil, putL, Act.put, List.setIfInBounds_toArray, List.set_cons_zero, List.set_cons_succ, Nat.zero_add, Nat.reduceAdd]
            exact rfl
          case step0 =>
            refine ⟨?_, ?_, ?_, ?_, ?_, ?_, ?_, ?_, ?_, ?_, ?_, ?_, ?_, ?_, ?_, ?_, ?_, ?_, ?_, ?_, ?_, ?_, ?_, ?_, ?_, ?_, ?_, ?_, ?_, ?_, ?_, ?_, ?_, ?_, ?_, ?_, ?_, ?_, ?_, ?_, ?_, ?_, ?_, ?_, ?_, ?_, ?_, ?_, ?_, ?_, ?_, ?_, ?_, ?_, trivial⟩
            · intro x W hR hdep K hK
              clear hdep
              go_simp
              exact hK _ _ rfl hR (fun _ _ h => h)
            · intro x W hR hdep K hK
              clear hdep
              go_simp
              exact hK _ _ rfl hR (fun _ _ h => h)
            · intro x W hR hdep K hK
              have h0 : x 0 = _ := hdep 0 rfl
              have h1 : x 1 = _ := hdep 1 rfl
              clear hdep
              simp only [h0, h1] at hK
              go_simp
              exact hK _ _ rfl hR (fun _ _ h => h)
            · intro x W hR hdep K hK
              have h2 : x 2 = _ := hdep 2 rfl
              clear hdep
              simp only [h2] at hK
              go_simp
              exact hK _ _ rfl hR (fun _ _ h => h)
            · intro x W hR hdep K hK
              have h3 : x 3 = _ := hdep 3 rfl
              clear hdep
              simp only [h3] at hK
              go_simp
              exact hK _ _ rfl hR (fun _ _ h => h)
            · intro x W hR hdep K hK
              have h3 : x 3 = _ := hdep 3 rfl
              have h4 : x 4 = _ := hdep 4 rfl
              clear hdep
              simp only [h3, h4] at hK
              go_simp
              refine (HLN.out W (HO8.out.later hR)).mono ?_
              rintro e W' ⟨rfl, rfl⟩
              exact hK _ _ rfl hR (fun _ _ h => h)
            · intro x W hR hdep K hK
              have h3 : x 3 = _ := hdep 3 rfl
              clear hdep
              simp only [h3] at hK
              go_simp
              exact hK _ _ rfl hR (fun _ _ h => h)
            · intro x W hR hdep K hK
              have h3 : x 3 = _ := hdep 3 rfl
              have h6 : x 6 = _ := hdep 6 rfl
              clear hdep
              simp only [h3, h6] at hK
              go_simp
              exact hK _ _ rfl hR (fun _ _ h => h)
            · intro x W hR hdep K hK
              have h3 : x 3 = _ := hdep 3 rfl
              have h5 : x 5 = _ := hdep 5 rfl
              have h7 : x 7 = _ := hdep 7 rfl
              clear hdep
              simp only [h3, h5, h7] at hK
              go_simp
              exact hK _ _ rfl hR (fun _ _ h => h)
            · intro x W hR hdep K hK
              have h3 : x 3 = _ := hdep 3 rfl
              have h8 : x 8 = _ := hdep 8 rfl
              clear hdep
              simp only [h3, h8] at hK
              go_simp
              exact hK _ _ rfl hR (fun _ _ h => h)
            · intro x W hR hdep K hK
              have h9 : x 9 = _ := hdep 9 rfl
              clear hdep
              simp only [h9] at hK
              go_simp
              exact hK _ _ rfl hR (fun _ _ h => h)
            · intro x W hR hdep K hK
              have h10 : x 10 = _ := hdep 10 rfl
              clear hdep
              simp only [h10] at hK
              go_simp
              exact hK _ _ rfl hR (fun _ _ h => h)
            · intro x W hR hdep K hK
              have h10 : x 10 = _ := hdep 10 rfl
              have h11 : x 11 = _ := hdep 11 rfl
              clear hdep
              simp only [h10, h11] at hK
              go_simp
              refine (HO8.out.later hR).pairs100.mono ?_
              rintro e W' ⟨v, rfl, hp, hb⟩
              exact hK _ _ (Row9.of_own hp) (below_next hR hb) (fun j u h => YPl9_keep hb j u h)
            · intro x W hR hdep K hK
              have h10 : x 10 = _ := hdep 10 rfl
              clear hdep
              simp only [h10] at hK
              go_simp
              exact hK _ _ rfl hR (fun _ _ h => h)
            · intro x W hR hdep K hK
              have h10 : x 10 = _ := hdep 10 rfl
              have h12 : Row9 _ W (x 12) := hdep 12 rfl
              have h13 : x 13 = _ := hdep 13 rfl
              clear hdep
              simp only [h10, h13] at hK
              go_simp
              refine (same9_calls (x 12) (.slice A2 m c2) L W h12.pv (HR8.out.later hR).pv HLL.out).mono ?_
              rintro e W' ⟨rfl, hb⟩
              exact hK _ _ rfl (below_next hR hb) (fun j u h => YPl9_keep hb j u h)
            · intro x W hR hdep K hK
              have h10 : x 10 = _ := hdep 10 rfl
              have h14 : x 14 = _ := hdep 14 rfl
              clear hdep
              simp only [h10, h14] at hK
              go_simp
              exact hK _ _ rfl hR (fun _ _ h => h)
            · intro x W hR hdep K hK
              have h10 : x 10 = _ := hdep 10 rfl
              have h15 : x 15 = _ := hdep 15 rfl
              clear hdep
              simp only [h10, h15] at hK
              go_simp
              exact hK _ _ rfl hR (fun _ _ h => h)
            · intro x W hR hdep K hK
              have h16 : x 16 = _ := hdep 16 rfl
              clear hdep
              simp only [h16] at hK
              go_simp
              exact hK _ _ rfl hR (fun _ _ h => h)
            · intro x W hR hdep K hK
              have h17 : x 17 = _ := hdep 17 rfl
              clear hdep
              simp only [h17] at hK
              go_simp
              exact hK _ _ rfl hR (fun _ _ h => h)
            · intro x W hR hdep K hK
              have h17 : x 17 = _ := hdep 17 rfl
              clear hdep
              simp only [h17] at hK
              go_simp
              exact hK _ _ rfl hR (fun _ _ h => h)
            · intro x W hR hdep K hK
              have h17 : x 17 = _ := hdep 17 rfl
              have h18 : x 18 = _ := hdep 18 rfl
              have h19 : x 19 = _ := hdep 19 rfl
              clear hdep
              simp only [h17, h18, h19] at hK
              go_simp
              refine ((HO8.out.later hR).pairs most).mono ?_
              rintro e W' ⟨v, rfl, hp, hb⟩
              exact hK _ _ (Row9.of_own hp) (below_next hR hb) (fun j u h => YPl9_keep hb j u h)
            · intro x W hR hdep K hK
              have h17 : x 17 = _ := hdep 17 rfl
              clear hdep
              simp only [h17] at hK
              go_simp
              exact hK _ _ rfl hR (fun _ _ h => h)
            · intro x W hR hdep K hK
              have h17 : x 17 = _ := hdep 17 rfl
              clear hdep
              simp only [h17] at hK
              go_simp
              exact hK _ _ rfl hR (fun _ _ h => h)
            · intro x W hR hdep K hK
              have h17 : x 17 = _ := hdep 17 rfl
              clear hdep
              simp only [h17] at hK
              go_simp
              exact hK _ _ rfl hR (fun _ _ h => h)
            · intro x W hR hdep K hK
              have h17 : x 17 = _ := hdep 17 rfl
              have h23 : x 23 = _ := hdep 23 rfl
              clear hdep
              simp only [h17, h23] at hK
              go_simp
              exact hK _ _ rfl hR (fun _ _ h => h)
            · intro x W hR hdep K hK
              have h17 : x 17 = _ := hdep 17 rfl
              have h22 : x 22 = _ := hdep 22 rfl
              have h24 : x 24 = _ := hdep 24 rfl
              clear hdep
              simp only [h17, h22, h24] at hK
              have hq := HMN.out
              go_simp
              exact hK _ _ rfl hR (fun _ _ h => h)
            · intro x W hR hdep K hK
              have h17 : x 17 = _ := hdep 17 rfl
              have h25 : x 25 = _ := hdep 25 rfl
              clear hdep
              simp only [h17, h25] at hK
              have hq := HMX.out
              go_simp
              exact hK _ _ rfl hR (fun _ _ h => h)
            · intro x W hR hdep K hK
              have h17 : x 17 = _ := hdep 17 rfl
              have h21 : x 21 = _ := hdep 21 rfl
              have h26 : x 26 = _ := hdep 26 rfl
              clear hdep
              simp only [h17, h21, h26] at hK
              have hq := slice9 A2 m c2 cut HCP.out W
              go_simp
              exact hK _ _ rfl hR (fun _ _ h => h)
            · intro x W hR hdep K hK
              have h17 : x 17 = _ := hdep 17 rfl
              have h20 : Row9 _ W (x 20) := hdep 20 rfl
              have h27 : x 27 = _ := hdep 27 rfl
              clear hdep
              simp only [h17, h27] at hK
              go_simp
              refine (same9_calls (x 20) (.slice A2 cut c2) (L.take most.toNat) W h20.pv (HCT.out W (HR8.out.later hR)) (Nat.le_trans (List.length_take_le' _ _) HLL.out)).mono ?_
              rintro e W' ⟨rfl, hb⟩
              exact hK _ _ rfl (below_next hR hb) (fun j u h => YPl9_keep hb j u h)
            · intro x W hR hdep K hK
              have h17 : x 17 = _ := hdep 17 rfl
              have h28 : x 28 = _ := hdep 28 rfl
              clear hdep
              simp only [h17, h28] at hK
              go_simp
              exact hK _ _ rfl hR (fun _ _ h => h)
            · intro x W hR hdep K hK
              have h17 : x 17 = _ := hdep 17 rfl
              have h29 : x 29 = _ := hdep 29 rfl
              clear hdep
              simp only [h17, h29] at hK
              go_simp
              exact hK _ _ rfl hR (fun _ _ h => h)
            · intro x W hR hdep K hK
              have h30 : x 30 = _ := hdep 30 rfl
              clear hdep
              simp only [h30] at hK
              go_simp
              exact hK _ _ rfl hR (fun _ _ h => h)
            · intro x W hR hdep K hK
              have h31 : x 31 = _ := hdep 31 rfl
              clear hdep
              simp only [h31] at hK
              go_simp
              exact hK _ _ rfl hR (fun _ _ h => h)
            · intro x W hR hdep K hK
              have h31 : x 31 = _ := hdep 31 rfl
              clear hdep
              simp only [h31] at hK
              go_simp
              exact hK _ _ rfl hR (fun _ _ h => h)
            · intro x W hR hdep K hK
              have h31 : x 31 = _ := hdep 31 rfl
              clear hdep
              simp only [h31] at hK
              go_simp
              exact hK _ _ rfl hR (fun _ _ h => h)
            · intro x W hR hdep K hK
              have h31 : x 31 = _ := hdep 31 rfl
              have h33 : x 33 = _ := hdep 33 rfl
              have h34 : x 34 = _ := hdep 34 rfl
              clear hdep
              simp only [h31, h33, h34] at hK
              go_simp
              refine (HOF.out W (HR8.out.later hR)).mono ?_
              rintro e W' ⟨rfl, hb⟩
              exact hK _ _ rfl (below_next hR hb) (fun j u h => YPl9_keep hb j u h)
            · intro x W hR hdep K hK
              have h31 : x 31 = _ := hdep 31 rfl
              have h32 : x 32 = _ := hdep 32 rfl
              have h35 : x 35 = _ := hdep 35 rfl
              clear hdep
              simp only [h31, h32, h35] at hK
              have hq := HGG.out.1
              have hq2 := HGG.out.2
              go_simp
              exact hK _ _ rfl hR (fun _ _ h => h)
            · intro x W hR hdep K hK
              have h31 : x 31 = _ := hdep 31 rfl
              have h36 : x 36 = _ := hdep 36 rfl
              clear hdep
              simp only [h31, h36] at hK
              go_simp
              exact hK _ _ rfl hR (fun _ _ h => h)
            · intro x W hR hdep K hK
              have h37 : x 37 = _ := hdep 37 rfl
              clear hdep
              simp only [h37] at hK
              go_simp
              exact hK _ _ rfl hR (fun _ _ h => h)
            · intro x W hR hdep K hK
              have h38 : x 38 = _ := hdep 38 rfl
              clear hdep
              simp only [h38] at hK
              go_simp
              exact hK _ _ rfl hR (fun _ _ h => h)
            · intro x W hR hdep K hK
              have h38 : x 38 = _ := hdep 38 rfl
              clear hdep
              simp only [h38] at hK
              go_simp
              exact hK _ _ rfl hR (fun _ _ h => h)
            · intro x W hR hdep K hK
              have h38 : x 38 = _ := hdep 38 rfl
              have h40 : x 40 = _ := hdep 40 rfl
              clear hdep
              simp only [h38, h40] at hK
              have hq := HGT.out
              go_simp
              exact hK _ _ rfl hR (fun _ _ h => h)
            · intro x W hR hdep K hK
              have h38 : x 38 = _ := hdep 38 rfl
              have h39 : x 39 = _ := hdep 39 rfl
              have h41 : x 41 = _ := hdep 41 rfl
              clear hdep
              simp only [h38, h39, h41] at hK
              have hq := HII.out
              go_simp
              exact hK _ _ rfl hR (fun _ _ h => h)
            · intro x W hR hdep K hK
              have h38 : x 38 = _ := hdep 38 rfl
              have h42 : x 42 = _ := hdep 42 rfl
              clear hdep
              simp only [h38, h42] at hK
              go_simp
              exact hK _ _ rfl hR (fun _ _ h => h)
            · intro x W hR hdep K hK
              have h43 : x 43 = _ := hdep 43 rfl
              clear hdep
              simp only [h43] at hK
              go_simp
              exact hK _ _ rfl hR (fun _ _ h => h)
            · intro x W hR hdep K hK
              have h44 : x 44 = _ := hdep 44 rfl
              clear hdep
              simp only [h44] at hK
              go_simp
              exact hK _ _ rfl hR (fun _ _ h => h)
            · intro x W hR hdep K hK
              have h44 : x 44 = _ := hdep 44 rfl
              clear hdep
              simp only [h44] at hK
              go_simp
              exact hK _ _ rfl hR (fun _ _ h => h)
            · intro x W hR hdep K hK
              have h44 : x 44 = _ := hdep 44 rfl
              have h45 : x 45 = _ := hdep 45 rfl
              have h46 : x 46 = _ := hdep 46 rfl
              clear hdep
              simp only [h44, h45, h46] at hK
              have hq := HFF.out.1
              have hq2 := HFF.out.2
              go_simp
              exact hK _ _ rfl hR (fun _ _ h => h)
            · intro x W hR hdep K hK
              have h44 : x 44 = _ := hdep 44 rfl
              have h47 : x 47 = _ := hdep 47 rfl
              clear hdep
              simp only [h44, h47] at hK
              go_simp
              exact hK _ _ rfl hR (fun _ _ h => h)
            · intro x W hR hdep K hK
              have h48 : x 48 = _ := hdep 48 rfl
              clear hdep
              simp only [h48] at hK
              go_simp
              exact hK _ _ rfl hR (fun _ _ h => h)
            · intro x W hR hdep K hK
              have h49 : x 49 = _ := hdep 49 rfl
              clear hdep
              simp only [h49] at hK
              go_simp
              exact hK _ _ rfl hR (fun _ _ h => h)
            · intro x W hR hdep K hK
              have h49 : x 49 = _ := hdep 49 rfl
              clear hdep
              simp only [h49] at hK
              go_simp
              exact hK _ _ rfl hR (fun _ _ h => h)
            · intro x W hR hdep K hK
              have h49 : x 49 = _ := hdep 49 rfl
              have h50 : x 50 = _ := hdep 50 rfl
              have h51 : x 51 = _ := hdep 51 rfl
              clear hdep
              simp only [h49, h50, h51] at hK
              go_simp
              exact hK _ _ rfl hR (fun _ _ h => h)
            · intro x W hR hdep K hK
              have h49 : x 49 = _ := hdep 49 rfl
              have h52 : x 52 = _ := hdep 52 rfl
              clear hdep
              simp only [h49, h52] at hK
              go_simp
              exact hK _ _ rfl hR (fun _ _ h => h)
          case fin0 =>
            intro x W hW hY
            have h53 : x 53 = _ := hY 53 (by decide)
            have HO9 := Lib.hid (HO8.out.later hW)
            have HR9 := Lib.hid (HR8.out.later hW)
            clear hY hW HO8 HR8 HLN HOF HCT
            rw [h53]
            clear h53
            go_wp2
            go_roundg (n - (k + 1))
            case measure => omega
            case rel => exact ⟨k + 1, _, L, by omega, by omega, by go_num, rfl, HO9, HLK, HR9⟩
        | true =>
          obtain ⟨t1, t2, _⟩ := tx7_some (hg0.has_ne hh)
          rw [hh] at HDA
          clear hh hg0
          generalize delE L0 nm.data.toList = L at *
          generalize tx7 (getE L0 nm.data.toList) = ag at *
          go_wp2_with fail
          rw [← HW4.out, ← HNN.out]
          with_reducible refine HOA.out.mono ?_
          rintro e wa ⟨rfl, hba⟩
          have HOa := Lib.hid (HO1.out.later hba)
          have HAa := Lib.hid (HA1.out.later hba)
          have HPB := Lib.hid (HPA.out wa (HR1.out.later hba))
          clear hba a0 a1 a2 HOA HPA HO1 HR1 HA1
          have a1 := HAa.out.c1
          go_wp2_with fail
          with_reducible refine HPB.out.mono ?_
          rintro e wb ⟨va, rfl, hra, hba⟩
          have HOb := Lib.hid (HOa.out.later hba)
          have HAb := Lib.hid (HAa.out.later hba)
          have HDB := Lib.hid (HDA.out wb HOb.out)
          have HRb := Lib.hid hra
          obtain ⟨A2, c2, rfl⟩ := hra.shape
          clear hra hba a1 HPB HDA HOa HAa
          have a1 := HAb.out.c1
          go_wp2_with fail
          with_reducible refine HDB.out.mono ?_
          rintro e w5 ⟨rfl, ho, hkp⟩
          have HO5 := Lib.hid ho
          have HR5 := Lib.hid (HRb.out.keeps hkp)
          clear ho hkp HDB HOb HAb HRb a1
          have HPV : Hid (∀ W, Own9 w2 W B L → Calls Tryd.prog 17 #[.pointer (some ⟨B, 0, none⟩), .string name] W fun e w' => e = .returned (.tuple #[.string (tx7 (getE L name.data.toList)), .bool (hasE L name.data.toList)]) ∧ w' = W) := fun W hW => hW.of_ name (by omega)
          have HFX : Hid (∀ W, Own9 w2 W B L → Calls Tryd.prog 18 #[.pointer (some ⟨B, 0, none⟩), .string fnd] W fun e w' => e = .returned (.tuple #[.string (tx7 (fiS9 L fnd.data.toList)), .int .i64 (fiE9 L fnd.data.toList)]) ∧ Below W.heap.size W w') := fun W hW => hW.find fnd (by omega) (H5.out.later (below_next HB2.out hW.below))
          have hgood : Good9 L := ⟨HO5.out.mir, HO5.out.all, Nat.le_trans HO5.out.few (by decide)⟩
          have HFR : Hid (∀ W, Row9 L W (.slice A2 L.length c2) → Calls Tryd.prog 19 #[.slice A2 L.length c2, .string fnd] W fun e w' => e = .returned (.tuple #[.string (tx7 (fiS9 L fnd.data.toList)), .int .i64 (fiE9 L fnd.data.toList)]) ∧ Below W.heap.size W w') := fun W hW => rfind9_calls _ L fnd W hgood (by omega) hW
          have HOF : Hid (∀ W, Row9 L W (.slice A2 L.length c2) → Calls Tryd.prog 9 #[.slice A2 L.length c2, .string name] W fun e w' => e = .returned (.string (tx7 (getE L name.data.toList))) ∧ Below W.heap.size W w') := fun W hW => rof9_calls _ L name W (Nat.le_trans HO5.out.few (by decide)) hgood.rise hW
          have HLN : Hid (∀ W, Own9 w2 W B L → Calls Tryd.prog 20 #[.pointer (some ⟨B, 0, none⟩)] W fun e w' => e = .returned (.int .i64 L.length) ∧ w' = W) := fun W hW => hW.len
          have HGT : Hid (((tx7 (getE L name.data.toList)).toList != []) = hasE L name.data.toList ∧ (!(tx7 (getE L name.data.toList)).toList.isEmpty) = hasE L name.data.toList) := by
            show _ ∧ _
            cases hh : hasE L name.data.toList with
            | false => rw [getE_none hh, tx7_nil]; exact ⟨by rw [ByteArray.toList_eq]; rfl, by rw [ByteArray.toList_eq]; rfl⟩
            | true =>
              obtain ⟨t1, t2, _⟩ := tx7_some (hgood.has_ne hh)
              refine ⟨by simpa using t1, by rw [t2]; rfl⟩
          have HCP0 := cap9 HR5.out
          have HCT0 : Hid (∀ W, Row9 L W (.slice A2 L.length c2) → Pv9 W (.slice A2 (L.take most.toNat).length c2) (L.take most.toNat)) := fun W hW => take9 hW.pv most.toNat
          have HLL : Hid (L.length ≤ 1000) := Nat.le_trans HO5.out.few (by decide)
          have HCU : Hid ((L.take most.toNat).length = min most.toNat L.length) := List.length_take ..
          clear hgood
          generalize tx7 (getE L name.data.toList) = gt at *
          generalize hasE L name.data.toList = is at *
          generalize tx7 (fiS9 L fnd.data.toList) = fn at *
          generalize fiE9 L fnd.data.toList = fe at *
          have HCT : Hid (∀ W, Row9 L W (.slice A2 L.length c2) → Pv9 W (.slice A2 (L.take most.toNat).length c2) (L.take most.toNat)) := HCT0
          clear HCT0
          obtain ⟨cut, hcut⟩ : ∃ cut, cut = (L.take most.toNat).length := ⟨_, rfl⟩
          rw [← hcut] at HCT HCU
          obtain ⟨m, hm⟩ : ∃ m, m = L.length := ⟨_, rfl⟩
          rw [← hm] at HFR HOF HLN HCT HCU HR5 HCP0 ⊢
          have HMM := Lib.hid hm
          have HCP : Hid (cut ≤ c2) := Nat.le_trans (by rw [HCU.out]; exact Nat.min_le_right _ _) HCP0
          obtain ⟨mn, hmn⟩ : ∃ mn : Int, mn = min most (m : Int) := ⟨_, rfl⟩
          have HMN : Hid (min most (m : Int) = mn) := hmn.symm
          have HMX : Hid (max 0 mn = (cut : Int)) := by
            have h1 := HCU.out
            show _ = _
            rw [hmn, h1]
            omega
          have HGG : Hid ((gt.toList != gt.toList) = false ∧ (gt.toList == gt.toList) = true) := ⟨by simp, by simp⟩
          have HFF : Hid ((fn.toList != fn.toList) = false ∧ (fn.toList == fn.toList) = true) := ⟨by simp, by simp⟩
          have HII : Hid ((is != is) = false) := by show _ = _; simp
          clear hm hcut hmn HCP0
          have HPV5 := Lib.hid (HPV.out w5 HO5.out)
          have HFX5 := Lib.hid (HFX.out w5 HO5.out)
          go_wp2_with fail
          with_reducible refine HPV5.out.mono ?_
          rintro e w6 ⟨rfl, rfl⟩
          go_wp2_with fail
          with_reducible refine HFX5.out.mono ?_
          rintro e w7 ⟨rfl, hb⟩
          have HO7 := Lib.hid (HO5.out.later hb)
          have HR7 := Lib.hid (HR5.out.later hb)
          have HFR7 := Lib.hid (HFR.out w7 HR7.out)
          clear hb HPV HFX HFR HPV5 HFX5 HR5 HO5
          go_wp2_with fail
          with_reducible refine HFR7.out.mono ?_
          rintro e w8 ⟨rfl, hb⟩
          have HO8 := Lib.hid (HO7.out.later hb)
          have HR8 := Lib.hid (HR7.out.later hb)
          clear hb HFR7 HO7 HR7
          go_wp2_with fail
          refine wp_region_inv (by kernel_rfl) (fun W => Below w8.heap.size w8 W) (YPl9 0 B L A2 m c2 cut most mn name gt is fn fe) ?F1 ?hF1 (by kernel_rfl) (by kernel_rfl) (below_drew (Below.refl _ _)) ?step1 ?fin1
          case hF1 =>
            intro x
            simp only [List.map_cons, List.map_nil, putL, Act.put, List.setIfInBounds_toArray, List.set_cons_zero, List.set_cons_succ, Nat.zero_add, Nat.reduceAdd]
            exact rfl
          case step1 =>
            refine ⟨?_, ?_, ?_, ?_, ?_, ?_, ?_, ?_, ?_, ?_, ?_, ?_, ?_, ?_, ?_, ?_, ?_, ?_, ?_, ?_, ?_, ?_, ?_, ?_, ?_, ?_, ?_, ?_, ?_, ?_, ?_, ?_, ?_, ?_, ?_, ?_, ?_, ?_, ?_, ?_, ?_, ?_, ?_, ?_, ?_, ?_, ?_, ?_, ?_, ?_, ?_, ?_, ?_, ?_, trivial⟩
            · intro x W hR hdep K hK
              clear hdep
              go_simp
              exact hK _ _ rfl hR (fun _ _ h => h)
            · intro x W hR hdep K hK
              clear hdep
              go_simp
              exact hK _ _ rfl hR (fun _ _ h => h)
            · intro x W hR hdep K hK
              have h0 : x 0 = _ := hdep 0 rfl
              have h1 : x 1 = _ := hdep 1 rfl
              clear hdep
              simp only [h0, h1] at hK
              go_simp
              exact hK _ _ rfl hR (fun _ _ h => h)
            · intro x W hR hdep K hK
              have h2 : x 2 = _ := hdep 2 rfl
              clear hdep
              simp only [h2] at hK
              go_simp
              exact hK _ _ rfl hR (fun _ _ h => h)
            · intro x W hR hdep K hK
              have h3 : x 3 = _ := hdep 3 rfl
              clear hdep
              simp only [h3] at hK
              go_simp
              exact hK _ _ rfl hR (fun _ _ h => h)
            · intro x W hR hdep K hK
              have h3 : x 3 = _ := hdep 3 rfl
              have h4 : x 4 = _ := hdep 4 rfl
              clear hdep
              simp only [h3, h4] at hK
              go_simp
              refine (HLN.out W (HO8.out.later hR)).mono ?_
              rintro e W' ⟨rfl, rfl⟩
              exact hK _ _ rfl hR (fun _ _ h => h)
            · intro x W hR hdep K hK
              have h3 : x 3 = _ := hdep 3 rfl
              clear hdep
              simp only [h3] at hK
              go_simp
              exact hK _ _ rfl hR (fun _ _ h => h)
            · intro x W hR hdep K hK
              have h3 : x 3 = _ := hdep 3 rfl
              have h6 : x 6 = _ := hdep 6 rfl
              clear hdep
              simp only [h3, h6] at hK
              go_simp
              exact hK _ _ rfl hR (fun _ _ h => h)
            · intro x W hR hdep K hK
              have h3 : x 3 = _ := hdep 3 rfl
              have h5 : x 5 = _ := hdep 5 rfl
              have h7 : x 7 = _ := hdep 7 rfl
              clear hdep
              simp only [h3, h5, h7] at hK
              go_simp
              exact hK _ _ rfl hR (fun _ _ h => h)
            · intro x W hR hdep K hK
              have h3 : x 3 = _ := hdep 3 rfl
              have h8 : x 8 = _ := hdep 8 rfl
              clear hdep
              simp only [h3, h8] at hK
              go_simp
              exact hK _ _ rfl hR (fun _ _ h => h)
            · intro x W hR hdep K hK
              have h9 : x 9 = _ := hdep 9 rfl
              clear hdep
              simp only [h9] at hK
              go_simp
              exact hK _ _ rfl hR (fun _ _ h => h)
            · intro x W hR hdep K hK
              have h10 : x 10 = _ := hdep 10 rfl
              clear hdep
              simp only [h10] at hK
              go_simp
              exact hK _ _ rfl hR (fun _ _ h => h)
            · intro x W hR hdep K hK
              have h10 : x 10 = _ := hdep 10 rfl
              have h11 : x 11 = _ := hdep 11 rfl
              clear hdep
              simp only [h10, h11] at hK
              go_simp
              refine (HO8.out.later hR).pairs100.mono ?_
              rintro e W' ⟨v, rfl, hp, hb⟩
              exact hK _ _ (Row9.of_own hp) (below_next hR hb) (fun j u h => YPl9_keep hb j u h)
            · intro x W hR hdep K hK
              have h10 : x 10 = _ := hdep 10 rfl
              clear hdep
              simp only [h10] at hK
              go_simp
              exact hK _ _ rfl hR (fun _ _ h => h)
            · intro x W hR hdep K hK
              have h10 : x 10 = _ := hdep 10 rfl
              have h12 : Row9 _ W (x 12) := hdep 12 rfl
              have h13 : x 13 = _ := hdep 13 rfl
              clear hdep
              simp only [h10, h13] at hK
              go_simp
              refine (same9_calls (x 12) (.slice A2 m c2) L W h12.pv (HR8.out.later hR).pv HLL.out).mono ?_
              rintro e W' ⟨rfl, hb⟩
              exact hK _ _ rfl (below_next hR hb) (fun j u h => YPl9_keep hb j u h)
            · intro x W hR hdep K hK
              have h10 : x 10 = _ := hdep 10 rfl
              have h14 : x 14 = _ := hdep 14 rfl
              clear hdep
              simp only [h10, h14] at hK
              go_simp
              exact hK _ _ rfl hR (fun _ _ h => h)
            · intro x W hR hdep K hK
              have h10 : x 10 = _ := hdep 10 rfl
              have h15 : x 15 = _ := hdep 15 rfl
              clear hdep
              simp only [h10, h15] at hK
              go_simp
              exact hK _ _ rfl hR (fun _ _ h => h)
            · intro x W hR hdep K hK
              have h16 : x 16 = _ := hdep 16 rfl
              clear hdep
              simp only [h16] at hK
              go_simp
              exact hK _ _ rfl hR (fun _ _ h => h)
            · intro x W hR hdep K hK
              have h17 : x 17 = _ := hdep 17 rfl
              clear hdep
              simp only [h17] at hK
              go_simp
              exact hK _ _ rfl hR (fun _ _ h => h)
            · intro x W hR hdep K hK
              have h17 : x 17 = _ := hdep 17 rfl
              clear hdep
              simp only [h17] at hK
              go_simp
              exact hK _ _ rfl hR (fun _ _ h => h)
            · intro x W hR hdep K hK
              have h17 : x 17 = _ := hdep 17 rfl
              have h18 : x 18 = _ := hdep 18 rfl
              have h19 : x 19 = _ := hdep 19 rfl
              clear hdep
              simp only [h17, h18, h19] at hK
              go_simp
              refine ((HO8.out.later hR).pairs most).mono ?_
              rintro e W' ⟨v, rfl, hp, hb⟩
              exact hK _ _ (Row9.of_own hp) (below_next hR hb) (fun j u h => YPl9_keep hb j u h)
            · intro x W hR hdep K hK
              have h17 : x 17 = _ := hdep 17 rfl
              clear hdep
              simp only [h17] at hK
              go_simp
              exact hK _ _ rfl hR (fun _ _ h => h)
            · intro x W hR hdep K hK
              have h17 : x 17 = _ := hdep 17 rfl
              clear hdep
              simp only [h17] at hK
              go_simp
              exact hK _ _ rfl hR (fun _ _ h => h)
            · intro x W hR hdep K hK
              have h17 : x 17 = _ := hdep 17 rfl
              clear hdep
              simp only [h17] at hK
              go_simp
              exact hK _ _ rfl hR (fun _ _ h => h)
            · intro x W hR hdep K hK
              have h17 : x 17 = _ := hdep 17 rfl
              have h23 : x 23 = _ := hdep 23 rfl
              clear hdep
              simp only [h17, h23] at hK
              go_simp
              exact hK _ _ rfl hR (fun _ _ h => h)
            · intro x W hR hdep K hK
              have h17 : x 17 = _ := hdep 17 rfl
              have h22 : x 22 = _ := hdep 22 rfl
              have h24 : x 24 = _ := hdep 24 rfl
              clear hdep
              simp only [h17, h22, h24] at hK
              have hq := HMN.out
              go_simp
              exact hK _ _ rfl hR (fun _ _ h => h)
            · intro x W hR hdep K hK
              have h17 : x 17 = _ := hdep 17 rfl
              have h25 : x 25 = _ := hdep 25 rfl
              clear hdep
              simp only [h17, h25] at hK
              have hq := HMX.out
              go_simp
              exact hK _ _ rfl hR (fun _ _ h => h)
            · intro x W hR hdep K hK
              have h17 : x 17 = _ := hdep 17 rfl
              have h21 : x 21 = _ := hdep 21 rfl
              have h26 : x 26 = _ := hdep 26 rfl
              clear hdep
              simp only [h17, h21, h26] at hK
              have hq := slice9 A2 m c2 cut HCP.out W
              go_simp
              exact hK _ _ rfl hR (fun _ _ h => h)
            · intro x W hR hdep K hK
              have h17 : x 17 = _ := hdep 17 rfl
              have h20 : Row9 _ W (x 20) := hdep 20 rfl
              have h27 : x 27 = _ := hdep 27 rfl
              clear hdep
              simp only [h17, h27] at hK
              go_simp
              refine (same9_calls (x 20) (.slice A2 cut c2) (L.take most.toNat) W h20.pv (HCT.out W (HR8.out.later hR)) (Nat.le_trans (List.length_take_le' _ _) HLL.out)).mono ?_
              rintro e W' ⟨rfl, hb⟩
              exact hK _ _ rfl (below_next hR hb) (fun j u h => YPl9_keep hb j u h)
            · intro x W hR hdep K hK
              have h17 : x 17 = _ := hdep 17 rfl
              have h28 : x 28 = _ := hdep 28 rfl
              clear hdep
              simp only [h17, h28] at hK
              go_simp
              exact hK _ _ rfl hR (fun _ _ h => h)
            · intro x W hR hdep K hK
              have h17 : x 17 = _ := hdep 17 rfl
              have h29 : x 29 = _ := hdep 29 rfl
              clear hdep
              simp only [h17, h29] at hK
              go_simp
              exact hK _ _ rfl hR (fun _ _ h => h)
            · intro x W hR hdep K hK
              have h30 : x 30 = _ := hdep 30 rfl
              clear hdep
              simp only [h30] at hK
              go_simp
              exact hK _ _ rfl hR (fun _ _ h => h)
            · intro x W hR hdep K hK
              have h31 : x 31 = _ := hdep 31 rfl
              clear hdep
              simp only [h31] at hK
              go_simp
              exact hK _ _ rfl hR (fun _ _ h => h)
            · intro x W hR hdep K hK
              have h31 : x 31 = _ := hdep 31 rfl
              clear hdep
              simp only [h31] at hK
              go_simp
              exact hK _ _ rfl hR (fun _ _ h => h)
            · intro x W hR hdep K hK
              have h31 : x 31 = _ := hdep 31 rfl
              clear hdep
              simp only [h31] at hK
              go_simp
              exact hK _ _ rfl hR (fun _ _ h => h)
            · intro x W hR hdep K hK
              have h31 : x 31 = _ := hdep 31 rfl
              have h33 : x 33 = _ := hdep 33 rfl
              have h34 : x 34 = _ := hdep 34 rfl
              clear hdep
              simp only [h31, h33, h34] at hK
              go_simp
              refine (HOF.out W (HR8.out.later hR)).mono ?_
              rintro e W' ⟨rfl, hb⟩
              exact hK _ _ rfl (below_next hR hb) (fun j u h => YPl9_keep hb j u h)
            · intro x W hR hdep K hK
              have h31 : x 31 = _ := hdep 31 rfl
              have h32 : x 32 = _ := hdep 32 rfl
              have h35 : x 35 = _ := hdep 35 rfl
              clear hdep
              simp only [h31, h32, h35] at hK
              have hq := HGG.out.1
              have hq2 := HGG.out.2
              go_simp
              exact hK _ _ rfl hR (fun _ _ h => h)
            · intro x W hR hdep K hK
              have h31 : x 31 = _ := hdep 31 rfl
              have h36 : x 36 = _ := hdep 36 rfl
              clear hdep
              simp only [h31, h36] at hK
              go_simp
              exact hK _ _ rfl hR (fun _ _ h => h)
            · intro x W hR hdep K hK
              have h37 : x 37 = _ := hdep 37 rfl
              clear hdep
              simp only [h37] at hK
              go_simp
              exact hK _ _ rfl hR (fun _ _ h => h)
            · intro x W hR hdep K hK
              have h38 : x 38 = _ := hdep 38 rfl
              clear hdep
              simp only [h38] at hK
              go_simp
              exact hK _ _ rfl hR (fun _ _ h => h)
            · intro x W hR hdep K hK
              have h38 : x 38 = _ := hdep 38 rfl
              clear hdep
              simp only [h38] at hK
              go_simp
              exact hK _ _ rfl hR (fun _ _ h => h)
            · intro x W hR hdep K hK
              have h38 : x 38 = _ := hdep 38 rfl
              have h40 : x 40 = _ := hdep 40 rfl
              clear hdep
              simp only [h38, h40] at hK
              have hq := HGT.out
              go_simp
              exact hK _ _ rfl hR (fun _ _ h => h)
            · intro x W hR hdep K hK
              have h38 : x 38 = _ := hdep 38 rfl
              have h39 : x 39 = _ := hdep 39 rfl
              have h41 : x 41 = _ := hdep 41 rfl
              clear hdep
              simp only [h38, h39, h41] at hK
              have hq := HII.out
              go_simp
              exact hK _ _ rfl hR (fun _ _ h => h)
            · intro x W hR hdep K hK
              have h38 : x 38 = _ := hdep 38 rfl
              have h42 : x 42 = _ := hdep 42 rfl
              clear hdep
              simp only [h38, h42] at hK
              go_simp
              exact hK _ _ rfl hR (fun _ _ h => h)
            · intro x W hR hdep K hK
              have h43 : x 43 = _ := hdep 43 rfl
              clear hdep
              simp only [h43] at hK
              go_simp
              exact hK _ _ rfl hR (fun _ _ h => h)
            · intro x W hR hdep K hK
              have h44 : x 44 = _ := hdep 44 rfl
              clear hdep
              simp only [h44] at hK
              go_simp
              exact hK _ _ rfl hR (fun _ _ h => h)
            · intro x W hR hdep K hK
              have h44 : x 44 = _ := hdep 44 rfl
              clear hdep
              simp only [h44] at hK
              go_simp
              exact hK _ _ rfl hR (fun _ _ h => h)
            · intro x W hR hdep K hK
              have h44 : x 44 = _ := hdep 44 rfl
              have h45 : x 45 = _ := hdep 45 rfl
              have h46 : x 46 = _ := hdep 46 rfl
              clear hdep
              simp only [h44, h45, h46] at hK
              have hq := HFF.out.1
              have hq2 := HFF.out.2
              go_simp
              exact hK _ _ rfl hR (fun _ _ h => h)
            · intro x W hR hdep K hK
              have h44 : x 44 = _ := hdep 44 rfl
              have h47 : x 47 = _ := hdep 47 rfl
              clear hdep
              simp only [h44, h47] at hK
              go_simp
              exact hK _ _ rfl hR (fun _ _ h => h)
            · intro x W hR hdep K hK
              have h48 : x 48 = _ := hdep 48 rfl
              clear hdep
              simp only [h48] at hK
              go_simp
              exact hK _ _ rfl hR (fun _ _ h => h)
            · intro x W hR hdep K hK
              have h49 : x 49 = _ := hdep 49 rfl
              clear hdep
              simp only [h49] at hK
              go_simp
              exact hK _ _ rfl hR (fun _ _ h => h)
            · intro x W hR hdep K hK
              have h49 : x 49 = _ := hdep 49 rfl
              clear hdep
              simp only [h49] at hK
              go_simp
              exact hK _ _ rfl hR (fun _ _ h => h)
            · intro x W hR hdep K hK
              have h49 : x 49 = _ := hdep 49 rfl
              have h50 : x 50 = _ := hdep 50 rfl
              have h51 : x 51 = _ := hdep 51 rfl
              clear hdep
              simp only [h49, h50, h51] at hK
              go_simp
              exact hK _ _ rfl hR (fun _ _ h => h)
            · intro x W hR hdep K hK
              have h49 : x 49 = _ := hdep 49 rfl
              have h52 : x 52 = _ := hdep 52 rfl
              clear hdep
              simp only [h49, h52] at hK
              go_simp
              exact hK _ _ rfl hR (fun _ _ h => h)
          case fin1 =>
            intro x W hW hY
            have h53 : x 53 = _ := hY 53 (by decide)
            have HO9 := Lib.hid (HO8.out.later hW)
            have HR9 := Lib.hid (HR8.out.later hW)
            clear hY hW HO8 HR8 HLN HOF HCT
            rw [h53]
            clear h53
            go_wp2
            go_roundg (n - (k + 1))
            case measure => omega
            case rel => exact ⟨k + 1, _, L, by omega, by omega, by go_num, rfl, HO9, HLK, HR9⟩
      by_cases r3 : r = 3
      · subst r3
        have HRA : Hid (Calls Tryd.prog 12 #[.slice A1 L0.length cc1, .string nm, .string hs] w4 (RSet9 (reE9 L0 nm.data.toList hs.data.toList) (reL9 L0 nm.data.toList hs.data.toList) w4)) := rrename9_calls _ L0 nm hs w4 hg0 (by omega) HR1.out
        have HXA : Hid (∀ W, Own9 w2 W B L0 → Calls Tryd.prog 13 #[.pointer (some ⟨B, 0, none⟩), .string nm, .string hs] W fun e w' => e = .returned (.int .i64 (reE9 L0 nm.data.toList hs.data.toList)) ∧ Own9 w2 w' B (reL9 L0 nm.data.toList hs.data.toList) ∧ Keeps9 W w') := fun W hW => hW.rename nm hs (by omega) (by omega)
        have HLK : Hid ((reL9 L0 nm.data.toList hs.data.toList).length ≤ k + 1) := Nat.le_trans (reL9_len hg0.rise _ _) (by omega)
        generalize reE9 L0 nm.data.toList hs.data.toList = x1 at *
        generalize reL9 L0 nm.data.toList hs.data.toList = L at *
        clear hg0 r2
        go_wp2_with fail
        rw [← HW4.out, ← HNN.out]
        with_reducible refine HRA.out.mono ?_
        rintro e wa ⟨va, rfl, hra, hba⟩
        have HOa := Lib.hid (HO1.out.later hba)
        have HAa := Lib.hid (HA1.out.later hba)
        have HXB := Lib.hid (HXA.out wa HOa.out)
        have HRa := Lib.hid hra
        obtain ⟨A2, c2, rfl⟩ := hra.shape
        clear hra hba a0 a1 a2 HRA HXA HO1 HR1 HA1
        have a1 := HAa.out.c1
        have a2 := HAa.out.c2
        go_wp2_with fail
        with_reducible refine HXB.out.mono ?_
        rintro e w5 ⟨rfl, ho, hkp⟩
        have HO5 := Lib.hid ho
        have HR5 := Lib.hid (HRa.out.keeps hkp)
        clear ho hkp HXB HOa HAa HRa a1 a2
        have HPV : Hid (∀ W, Own9 w2 W B L → Calls Tryd.prog 17 #[.pointer (some ⟨B, 0, none⟩), .string name] W fun e w' => e = .returned (.tuple #[.string (tx7 (getE L name.data.toList)), .bool (hasE L name.data.toList)]) ∧ w' = W) := fun W hW => hW.of_ name (by omega)
        have HFX : Hid (∀ W, Own9 w2 W B L → Calls Tryd.prog 18 #[.pointer (some ⟨B, 0, none⟩), .string fnd] W fun e w' => e = .returned (.tuple #[.string (tx7 (fiS9 L fnd.data.toList)), .int .i64 (fiE9 L fnd.data.toList)]) ∧ Below W.heap.size W w') := fun W hW => hW.find fnd (by omega) (H5.out.later (below_next HB2.out hW.below))
        have hgood : Good9 L := ⟨HO5.out.mir, HO5.out.all, Nat.le_trans HO5.out.few (by decide)⟩
        have HFR : Hid (∀ W, Row9 L W (.slice A2 L.length c2) → Calls Tryd.prog 19 #[.slice A2 L.length c2, .string fnd] W fun e w' => e = .returned (.tuple #[.string (tx7 (fiS9 L fnd.data.toList)), .int .i64 (fiE9 L fnd.data.toList)]) ∧ Below W.heap.size W w') := fun W hW => rfind9_calls _ L fnd W hgood (by omega) hW
        have HOF : Hid (∀ W, Row9 L W (.slice A2 L.length c2) → Calls Tryd.prog 9 #[.slice A2 L.length c2, .string name] W fun e w' => e = .returned (.string (tx7 (getE L name.data.toList))) ∧ Below W.heap.size W w') := fun W hW => rof9_calls _ L name W (Nat.le_trans HO5.out.few (by decide)) hgood.rise hW
        have HLN : Hid (∀ W, Own9 w2 W B L → Calls Tryd.prog 20 #[.pointer (some ⟨B, 0, none⟩)] W fun e w' => e = .returned (.int .i64 L.length) ∧ w' = W) := fun W hW => hW.len
        have HGT : Hid (((tx7 (getE L name.data.toList)).toList != []) = hasE L name.data.toList ∧ (!(tx7 (getE L name.data.toList)).toList.isEmpty) = hasE L name.data.toList) := by
          show _ ∧ _
          cases hh : hasE L name.data.toList with
          | false => rw [getE_none hh, tx7_nil]; exact ⟨by rw [ByteArray.toList_eq]; rfl, by rw [ByteArray.toList_eq]; rfl⟩
          | true =>
            obtain ⟨t1, t2, _⟩ := tx7_some (hgood.has_ne hh)
            refine ⟨by simpa using t1, by rw [t2]; rfl⟩
        have HCP0 := cap9 HR5.out
        have HCT0 : Hid (∀ W, Row9 L W (.slice A2 L.length c2) → Pv9 W (.slice A2 (L.take most.toNat).length c2) (L.take most.toNat)) := fun W hW => take9 hW.pv most.toNat
        have HLL : Hid (L.length ≤ 1000) := Nat.le_trans HO5.out.few (by decide)
        have HCU : Hid ((L.take most.toNat).length = min most.toNat L.length) := List.length_take ..
        clear hgood
        generalize tx7 (getE L name.data.toList) = gt at *
        generalize hasE L name.data.toList = is at *
        generalize tx7 (fiS9 L fnd.data.toList) = fn at *
        generalize fiE9 L fnd.data.toList = fe at *
        have HCT : Hid (∀ W, Row9 L W (.slice A2 L.length c2) → Pv9 W (.slice A2 (L.take most.toNat).length c2) (L.take most.toNat)) := HCT0
        clear HCT0
        obtain ⟨cut, hcut⟩ : ∃ cut, cut = (L.take most.toNat).length := ⟨_, rfl⟩
        rw [← hcut] at HCT HCU
        obtain ⟨m, hm⟩ : ∃ m, m = L.length := ⟨_, rfl⟩
        rw [← hm] at HFR HOF HLN HCT HCU HR5 HCP0 ⊢
        have HMM := Lib.hid hm
        have HCP : Hid (cut ≤ c2) := Nat.le_trans (by rw [HCU.out]; exact Nat.min_le_right _ _) HCP0
        obtain ⟨mn, hmn⟩ : ∃ mn : Int, mn = min most (m : Int) := ⟨_, rfl⟩
        have HMN : Hid (min most (m : Int) = mn) := hmn.symm
        have HMX : Hid (max 0 mn = (cut : Int)) := by
          have h1 := HCU.out
          show _ = _
          rw [hmn, h1]
          omega
        have HGG : Hid ((gt.toList != gt.toList) = false ∧ (gt.toList == gt.toList) = true) := ⟨by simp, by simp⟩
        have HFF : Hid ((fn.toList != fn.toList) = false ∧ (fn.toList == fn.toList) = true) := ⟨by simp, by simp⟩
        have HII : Hid ((is != is) = false) := by show _ = _; simp
        clear hm hcut hmn HCP0
        have HPV5 := Lib.hid (HPV.out w5 HO5.out)
        have HFX5 := Lib.hid (HFX.out w5 HO5.out)
        go_wp2_with fail
        with_reducible refine HPV5.out.mono ?_
        rintro e w6 ⟨rfl, rfl⟩
        go_wp2_with fail
        with_reducible refine HFX5.out.mono ?_
        rintro e w7 ⟨rfl, hb⟩
        have HO7 := Lib.hid (HO5.out.later hb)
        have HR7 := Lib.hid (HR5.out.later hb)
        have HFR7 := Lib.hid (HFR.out w7 HR7.out)
        clear hb HPV HFX HFR HPV5 HFX5 HR5 HO5
        go_wp2_with fail
        with_reducible refine HFR7.out.mono ?_
        rintro e w8 ⟨rfl, hb⟩
        have HO8 := Lib.hid (HO7.out.later hb)
        have HR8 := Lib.hid (HR7.out.later hb)
        clear hb HFR7 HO7 HR7
        go_wp2_with fail
        refine wp_region_inv (by kernel_rfl) (fun W => Below w8.heap.size w8 W) (YPl9 x1 B L A2 m c2 cut most mn name gt is fn fe) ?F2 ?hF2 (by kernel_rfl) (by kernel_rfl) (below_drew (Below.refl _ _)) ?step2 ?fin2
        case hF2 =>
          intro x
          simp only [List.map_cons, List.map_nil, putL, Act.put, List.setIfInBounds_toArray, List.set_cons_zero, List.set_cons_succ, Nat.zero_add, Nat.reduceAdd]
          exact rfl
        case step2 =>
          refine ⟨?_, ?_, ?_, ?_, ?_, ?_, ?_, ?_, ?_, ?_, ?_, ?_, ?_, ?_, ?_, ?_, ?_, ?_, ?_, ?_, ?_, ?_, ?_, ?_, ?_, ?_, ?_, ?_, ?_, ?_, ?_, ?_, ?_, ?_, ?_, ?_, ?_, ?_, ?_, ?_, ?_, ?_, ?_, ?_, ?_, ?_, ?_, ?_, ?_, ?_, ?_, ?_, ?_, ?_, trivial⟩
          · intro x W hR hdep K hK
            clear hdep
            go_simp
            exact hK _ _ rfl hR (fun _ _ h => h)
          · intro x W hR hdep K hK
            clear hdep
            go_simp
            exact hK _ _ rfl hR (fun _ _ h => h)
          · intro x W hR hdep K hK
            have h0 : x 0 = _ := hdep 0 rfl
            have h1 : x 1 = _ := hdep 1 rfl
            clear hdep
            simp only [h0, h1] at hK
            go_simp
            exact hK _ _ rfl hR (fun _ _ h => h)
          · intro x W hR hdep K hK
            have h2 : x 2 = _ := hdep 2 rfl
            clear hdep
            simp only [h2] at hK
            go_simp
            exact hK _ _ rfl hR (fun _ _ h => h)
          · intro x W hR hdep K hK
            have h3 : x 3 = _ := hdep 3 rfl
            clear hdep
            simp only [h3] at hK
            go_simp
            exact hK _ _ rfl hR (fun _ _ h => h)
          · intro x W hR hdep K hK
            have h3 : x 3 = _ := hdep 3 rfl
            have h4 : x 4 = _ := hdep 4 rfl
            clear hdep
            simp only [h3, h4] at hK
            go_simp
            refine (HLN.out W (HO8.out.later hR)).mono ?_
            rintro e W' ⟨rfl, rfl⟩
            exact hK _ _ rfl hR (fun _ _ h => h)
          · intro x W hR hdep K hK
            have h3 : x 3 = _ := hdep 3 rfl
            clear hdep
            simp only [h3] at hK
            go_simp
            exact hK _ _ rfl hR (fun _ _ h => h)
          · intro x W hR hdep K hK
            have h3 : x 3 = _ := hdep 3 rfl
            have h6 : x 6 = _ := hdep 6 rfl
            clear hdep
            simp only [h3, h6] at hK
            go_simp
            exact hK _ _ rfl hR (fun _ _ h => h)
          · intro x W hR hdep K hK
            have h3 : x 3 = _ := hdep 3 rfl
            have h5 : x 5 = _ := hdep 5 rfl
            have h7 : x 7 = _ := hdep 7 rfl
            clear hdep
            simp only [h3, h5, h7] at hK
            go_simp
            exact hK _ _ rfl hR (fun _ _ h => h)
          · intro x W hR hdep K hK
            have h3 : x 3 = _ := hdep 3 rfl
            have h8 : x 8 = _ := hdep 8 rfl
            clear hdep
            simp only [h3, h8] at hK
            go_simp
            exact hK _ _ rfl hR (fun _ _ h => h)
          · intro x W hR hdep K hK
            have h9 : x 9 = _ := hdep 9 rfl
            clear hdep
            simp only [h9] at hK
            go_simp
            exact hK _ _ rfl hR (fun _ _ h => h)
          · intro x W hR hdep K hK
            have h10 : x 10 = _ := hdep 10 rfl
            clear hdep
            simp only [h10] at hK
            go_simp
            exact hK _ _ rfl hR (fun _ _ h => h)
          · intro x W hR hdep K hK
            have h10 : x 10 = _ := hdep 10 rfl
            have h11 : x 11 = _ := hdep 11 rfl
            clear hdep
            simp only [h10, h11] at hK
            go_simp
            refine (HO8.out.later hR).pairs100.mono ?_
            rintro e W' ⟨v, rfl, hp, hb⟩
            exact hK _ _ (Row9.of_own hp) (below_next hR hb) (fun j u h => YPl9_keep hb j u h)
          · intro x W hR hdep K hK
            have h10 : x 10 = _ := hdep 10 rfl
            clear hdep
            simp only [h10] at hK
            go_simp
            exact hK _ _ rfl hR (fun _ _ h => h)
          · intro x W hR hdep K hK
            have h10 : x 10 = _ := hdep 10 rfl
            have h12 : Row9 _ W (x 12) := hdep 12 rfl
            have h13 : x 13 = _ := hdep 13 rfl
            clear hdep
            simp only [h10, h13] at hK
            go_simp
            refine (same9_calls (x 12) (.slice A2 m c2) L W h12.pv (HR8.out.later hR).pv HLL.out).mono ?_
            rintro e W' ⟨rfl, hb⟩
            exact hK _ _ rfl (below_next hR hb) (fun j u h => YPl9_keep hb j u h)
          · intro x W hR hdep K hK
            have h10 : x 10 = _ := hdep 10 rfl
            have h14 : x 14 = _ := hdep 14 rfl
            clear hdep
            simp only [h10, h14] at hK
            go_simp
            exact hK _ _ rfl hR (fun _ _ h => h)
          · intro x W hR hdep K hK
            have h10 : x 10 = _ := hdep 10 rfl
            have h15 : x 15 = _ := hdep 15 rfl
            clear hdep
            simp only [h10, h15] at hK
            go_simp
            exact hK _ _ rfl hR (fun _ _ h => h)
          · intro x W hR hdep K hK
            have h16 : x 16 = _ := hdep 16 rfl
            clear hdep
            simp only [h16] at hK
            go_simp
            exact hK _ _ rfl hR (fun _ _ h => h)
          · intro x W hR hdep K hK
            have h17 : x 17 = _ := hdep 17 rfl
            clear hdep
            simp only [h17] at hK
            go_simp
            exact hK _ _ rfl hR (fun _ _ h => h)
          · intro x W hR hdep K hK
            have h17 : x 17 = _ := hdep 17 rfl
            clear hdep
            simp only [h17] at hK
            go_simp
            exact hK _ _ rfl hR (fun _ _ h => h)
          · intro x W hR hdep K hK
            have h17 : x 17 = _ := hdep 17 rfl
            have h18 : x 18 = _ := hdep 18 rfl
            have h19 : x 19 = _ := hdep 19 rfl
            clear hdep
            simp only [h17, h18, h19] at hK
            go_simp
            refine ((HO8.out.later hR).pairs most).mono ?_
            rintro e W' ⟨v, rfl, hp, hb⟩
            exact hK _ _ (Row9.of_own hp) (below_next hR hb) (fun j u h => YPl9_keep hb j u h)
          · intro x W hR hdep K hK
            have h17 : x 17 = _ := hdep 17 rfl
            clear hdep
            simp only [h17] at hK
            go_simp
            exact hK _ _ rfl hR (fun _ _ h => h)
          · intro x W hR hdep K hK
            have h17 : x 17 = _ := hdep 17 rfl
            clear hdep
            simp only [h17] at hK
            go_simp
            exact hK _ _ rfl hR (fun _ _ h => h)
          · intro x W hR hdep K hK
            have h17 : x 17 = _ := hdep 17 rfl
            clear hdep
            simp only [h17] at hK
            go_simp
            exact hK _ _ rfl hR (fun _ _ h => h)
          · intro x W hR hdep K hK
            have h17 : x 17 = _ := hdep 17 rfl
            have h23 : x 23 = _ := hdep 23 rfl
            clear hdep
            simp only [h17, h23] at hK
            go_simp
            exact hK _ _ rfl hR (fun _ _ h => h)
          · intro x W hR hdep K hK
            have h17 : x 17 = _ := hdep 17 rfl
            have h22 : x 22 = _ := hdep 22 rfl
            have h24 : x 24 = _ := hdep 24 rfl
            clear hdep
            simp only [h17, h22, h24] at hK
            have hq := HMN.out
            go_simp
            exact hK _ _ rfl hR (fun _ _ h => h)
          · intro x W hR hdep K hK
            have h17 : x 17 = _ := hdep 17 rfl
            have h25 : x 25 = _ := hdep 25 rfl
            clear hdep
            simp only [h17, h25] at hK
            have hq := HMX.out
            go_simp
            exact hK _ _ rfl hR (fun _ _ h => h)
          · intro x W hR hdep K hK
            have h17 : x 17 = _ := hdep 17 rfl
            have h21 : x 21 = _ := hdep 21 rfl
            have h26 : x 26 = _ := hdep 26 rfl
            clear hdep
            simp only [h17, h21, h26] at hK
            have hq := slice9 A2 m c2 cut HCP.out W
            go_simp
            exact hK _ _ rfl hR (fun _ _ h => h)
          · intro x W hR hdep K hK
            have h17 : x 17 = _ := hdep 17 rfl
            have h20 : Row9 _ W (x 20) := hdep 20 rfl
            have h27 : x 27 = _ := hdep 27 rfl
            clear hdep
            simp only [h17, h27] at hK
            go_simp
            refine (same9_calls (x 20) (.slice A2 cut c2) (L.take most.toNat) W h20.pv (HCT.out W (HR8.out.later hR)) (Nat.le_trans (List.length_take_le' _ _) HLL.out)).mono ?_
            rintro e W' ⟨rfl, hb⟩
            exact hK _ _ rfl (below_next hR hb) (fun j u h => YPl9_keep hb j u h)
          · intro x W hR hdep K hK
            have h17 : x 17 = _ := hdep 17 rfl
            have h28 : x 28 = _ := hdep 28 rfl
            clear hdep
            simp only [h17, h28] at hK
            go_simp
            exact hK _ _ rfl hR (fun _ _ h => h)
          · intro x W hR hdep K hK
            have h17 : x 17 = _ := hdep 17 rfl
            have h29 : x 29 = _ := hdep 29 rfl
            clear hdep
            simp only [h17, h29] at hK
            go_simp
            exact hK _ _ rfl hR (fun _ _ h => h)
          · intro x W hR hdep K hK
            have h30 : x 30 = _ := hdep 30 rfl
            clear hdep
            simp only [h30] at hK
            go_simp
            exact hK _ _ rfl hR (fun _ _ h => h)
          · intro x W hR hdep K hK
            have h31 : x 31 = _ := hdep 31 rfl
            clear hdep
            simp only [h31] at hK
            go_simp
            exact hK _ _ rfl hR (fun _ _ h => h)
          · intro x W hR hdep K hK
            have h31 : x 31 = _ := hdep 31 rfl
            clear hdep
            simp only [h31] at hK
            go_simp
            exact hK _ _ rfl hR (fun _ _ h => h)
          · intro x W hR hdep K hK
            have h31 : x 31 = _ := hdep 31 rfl
            clear hdep
            simp only [h31] at hK
            go_simp
            exact hK _ _ rfl hR (fun _ _ h => h)
          · intro x W hR hdep K hK
            have h31 : x 31 = _ := hdep 31 rfl
            have h33 : x 33 = _ := hdep 33 rfl
            have h34 : x 34 = _ := hdep 34 rfl
            clear hdep
            simp only [h31, h33, h34] at hK
            go_simp
            refine (HOF.out W (HR8.out.later hR)).mono ?_
            rintro e W' ⟨rfl, hb⟩
            exact hK _ _ rfl (below_next hR hb) (fun j u h => YPl9_keep hb j u h)
          · intro x W hR hdep K hK
            have h31 : x 31 = _ := hdep 31 rfl
            have h32 : x 32 = _ := hdep 32 rfl
            have h35 : x 35 = _ := hdep 35 rfl
            clear hdep
            simp only [h31, h32, h35] at hK
            have hq := HGG.out.1
            have hq2 := HGG.out.2
            go_simp
            exact hK _ _ rfl hR (fun _ _ h => h)
          · intro x W hR hdep K hK
            have h31 : x 31 = _ := hdep 31 rfl
            have h36 : x 36 = _ := hdep 36 rfl
            clear hdep
            simp only [h31, h36] at hK
            go_simp
            exact hK _ _ rfl hR (fun _ _ h => h)
          · intro x W hR hdep K hK
            have h37 : x 37 = _ := hdep 37 rfl
            clear hdep
            simp only [h37] at hK
            go_simp
            exact hK _ _ rfl hR (fun _ _ h => h)
          · intro x W hR hdep K hK
            have h38 : x 38 = _ := hdep 38 rfl
            clear hdep
            simp only [h38] at hK
            go_simp
            exact hK _ _ rfl hR (fun _ _ h => h)
          · intro x W hR hdep K hK
            have h38 : x 38 = _ := hdep 38 rfl
            clear hdep
            simp only [h38] at hK
            go_simp
            exact hK _ _ rfl hR (fun _ _ h => h)
          · intro x W hR hdep K hK
            have h38 : x 38 = _ := hdep 38 rfl
            have h40 : x 40 = _ := hdep 40 rfl
            clear hdep
            simp only [h38, h40] at hK
            have hq := HGT.out
            go_simp
            exact hK _ _ rfl hR (fun _ _ h => h)
          · intro x W hR hdep K hK
            have h38 : x 38 = _ := hdep 38 rfl
            have h39 : x 39 = _ := hdep 39 rfl
            have h41 : x 41 = _ := hdep 41 rfl
            clear hdep
            simp only [h38, h39, h41] at hK
            have hq := HII.out
            go_simp
            exact hK _ _ rfl hR (fun _ _ h => h)
          · intro x W hR hdep K hK
            have h38 : x 38 = _ := hdep 38 rfl
            have h42 : x 42 = _ := hdep 42 rfl
            clear hdep
            simp only [h38, h42] at hK
            go_simp
            exact hK _ _ rfl hR (fun _ _ h => h)
          · intro x W hR hdep K hK
            have h43 : x 43 = _ := hdep 43 rfl
            clear hdep
            simp only [h43] at hK
            go_simp
            exact hK _ _ rfl hR (fun _ _ h => h)
          · intro x W hR hdep K hK
            have h44 : x 44 = _ := hdep 44 rfl
            clear hdep
            simp only [h44] at hK
            go_simp
            exact hK _ _ rfl hR (fun _ _ h => h)
          · intro x W hR hdep K hK
            have h44 : x 44 = _ := hdep 44 rfl
            clear hdep
            simp only [h44] at hK
            go_simp
            exact hK _ _ rfl hR (fun _ _ h => h)
          · intro x W hR hdep K hK
            have h44 : x 44 = _ := hdep 44 rfl
            have h45 : x 45 = _ := hdep 45 rfl
            have h46 : x 46 = _ := hdep 46 rfl
            clear hdep
            simp only [h44, h45, h46] at hK
            have hq := HFF.out.1
            have hq2 := HFF.out.2
            go_simp
            exact hK _ _ rfl hR (fun _ _ h => h)
          · intro x W hR hdep K hK
            have h44 : x 44 = _ := hdep 44 rfl
            have h47 : x 47 = _ := hdep 47 rfl
            clear hdep
            simp only [h44, h47] at hK
            go_simp
            exact hK _ _ rfl hR (fun _ _ h => h)
          · intro x W hR hdep K hK
            have h48 : x 48 = _ := hdep 48 rfl
            clear hdep
            simp only [h48] at hK
            go_simp
            exact hK _ _ rfl hR (fun _ _ h => h)
          · intro x W hR hdep K hK
            have h49 : x 49 = _ := hdep 49 rfl
            clear hdep
            simp only [h49] at hK
            go_simp
            exact hK _ _ rfl hR (fun _ _ h => h)
          · intro x W hR hdep K hK
            have h49 : x 49 = _ := hdep 49 rfl
            clear hdep
            simp only [h49] at hK
            go_simp
            exact hK _ _ rfl hR (fun _ _ h => h)
          · intro x W hR hdep K hK
            have h49 : x 49 = _ := hdep 49 rfl
            have h50 : x 50 = _ := hdep 50 rfl
            have h51 : x 51 = _ := hdep 51 rfl
            clear hdep
            simp only [h49, h50, h51] at hK
            go_simp
            exact hK _ _ rfl hR (fun _ _ h => h)
          · intro x W hR hdep K hK
            have h49 : x 49 = _ := hdep 49 rfl
            have h52 : x 52 = _ := hdep 52 rfl
            clear hdep
            simp only [h49, h52] at hK
            go_simp
            exact hK _ _ rfl hR (fun _ _ h => h)
        case fin2 =>
          intro x W hW hY
          have h53 : x 53 = _ := hY 53 (by decide)
          have HO9 := Lib.hid (HO8.out.later hW)
          have HR9 := Lib.hid (HR8.out.later hW)
          clear hY hW HO8 HR8 HLN HOF HCT
          rw [h53]
          clear h53
          go_wp2
          go_roundg (n - (k + 1))
          case measure => omega
          case rel => exact ⟨k + 1, _, L, by omega, by omega, by go_num, rfl, HO9, HLK, HR9⟩
      by_cases r4 : r = 4
      · subst r4
        have HCA := Lib.hid HO1.out.copy
        have HLK : Hid (L0.length ≤ k + 1) := by show _ ≤ _; omega
        clear hg0 r2 r3
        go_wp2_with fail
        rw [← HW4.out, ← HNN.out]
        with_reducible refine HCA.out.mono ?_
        rintro e wa ⟨bc, rfl, hoc⟩
        have HAa := Lib.hid (HA1.out.later hoc.below)
        have HOa := Lib.hid (HO1.out.later hoc.below)
        have HRa := Lib.hid (HR1.out.later hoc.below)
        have HSC := Lib.hid (hoc.set nm hs (by omega) (by omega) (by omega) (H5.out.later (below_next HB2.out HOa.out.below)))
        clear hoc a0 a1 a2 HCA
        have a1 := HAa.out.c1
        have a2 := HAa.out.c2
        generalize seE9 L0 nm.data.toList hs.data.toList = q1 at *
        generalize seL9 L0 nm.data.toList hs.data.toList = Lq at *
        go_wp2_with fail
        with_reducible refine HSC.out.mono ?_
        rintro e wb ⟨rfl, hoc, _⟩
        have HDC := Lib.hid (hoc.drop ⟨#[97, 110, 110]⟩ (by decide))
        clear hoc HSC a1 a2
        generalize hasE Lq (ByteArray.mk #[97, 110, 110]).data.toList = q2 at *
        generalize delE Lq (ByteArray.mk #[97, 110, 110]).data.toList = Lz at *
        go_wp2_with fail
        with_reducible refine HDC.out.mono ?_
        rintro e w5 ⟨rfl, hoc, _⟩
        have HO5 := Lib.hid (HO1.out.later hoc.below)
        have HR5 := Lib.hid (HR1.out.later hoc.below)
        clear hoc HDC HO1 HR1 HA1 HAa HOa HRa
        obtain ⟨L, hL⟩ : ∃ L, L = L0 := ⟨_, rfl⟩
        subst hL
        obtain ⟨A2, hA2⟩ : ∃ A2, A2 = A1 := ⟨_, rfl⟩
        subst hA2
        obtain ⟨c2, hc2⟩ : ∃ c2, c2 = cc1 := ⟨_, rfl⟩
        subst hc2
        have HPV : Hid (∀ W, Own9 w2 W B L → Calls Tryd.prog 17 #[.pointer (some ⟨B, 0, none⟩), .string name] W fun e w' => e = .returned (.tuple #[.string (tx7 (getE L name.data.toList)), .bool (hasE L name.data.toList)]) ∧ w' = W) := fun W hW => hW.of_ name (by omega)
        have HFX : Hid (∀ W, Own9 w2 W B L → Calls Tryd.prog 18 #[.pointer (some ⟨B, 0, none⟩), .string fnd] W fun e w' => e = .returned (.tuple #[.string (tx7 (fiS9 L fnd.data.toList)), .int .i64 (fiE9 L fnd.data.toList)]) ∧ Below W.heap.size W w') := fun W hW => hW.find fnd (by omega) (H5.out.later (below_next HB2.out hW.below))
        have hgood : Good9 L := ⟨HO5.out.mir, HO5.out.all, Nat.le_trans HO5.out.few (by decide)⟩
        have HFR : Hid (∀ W, Row9 L W (.slice A2 L.length c2) → Calls Tryd.prog 19 #[.slice A2 L.length c2, .string fnd] W fun e w' => e = .returned (.tuple #[.string (tx7 (fiS9 L fnd.data.toList)), .int .i64 (fiE9 L fnd.data.toList)]) ∧ Below W.heap.size W w') := fun W hW => rfind9_calls _ L fnd W hgood (by omega) hW
        have HOF : Hid (∀ W, Row9 L W (.slice A2 L.length c2) → Calls Tryd.prog 9 #[.slice A2 L.length c2, .string name] W fun e w' => e = .returned (.string (tx7 (getE L name.data.toList))) ∧ Below W.heap.size W w') := fun W hW => rof9_calls _ L name W (Nat.le_trans HO5.out.few (by decide)) hgood.rise hW
        have HLN : Hid (∀ W, Own9 w2 W B L → Calls Tryd.prog 20 #[.pointer (some ⟨B, 0, none⟩)] W fun e w' => e = .returned (.int .i64 L.length) ∧ w' = W) := fun W hW => hW.len
        have HGT : Hid (((tx7 (getE L name.data.toList)).toList != []) = hasE L name.data.toList ∧ (!(tx7 (getE L name.data.toList)).toList.isEmpty) = hasE L name.data.toList) := by
          show _ ∧ _
          cases hh : hasE L name.data.toList with
          | false => rw [getE_none hh, tx7_nil]; exact ⟨by rw [ByteArray.toList_eq]; rfl, by rw [ByteArray.toList_eq]; rfl⟩
          | true =>
            obtain ⟨t1, t2, _⟩ := tx7_some (hgood.has_ne hh)
            refine ⟨by simpa using t1, by rw [t2]; rfl⟩
        have HCP0 := cap9 HR5.out
        have HCT0 : Hid (∀ W, Row9 L W (.slice A2 L.length c2) → Pv9 W (.slice A2 (L.take most.toNat).length c2) (L.take most.toNat)) := fun W hW => take9 hW.pv most.toNat
        have HLL : Hid (L.length ≤ 1000) := Nat.le_trans HO5.out.few (by decide)
        have HCU : Hid ((L.take most.toNat).length = min most.toNat L.length) := List.length_take ..
        clear hgood
        generalize tx7 (getE L name.data.toList) = gt at *
        generalize hasE L name.data.toList = is at *
        generalize tx7 (fiS9 L fnd.data.toList) = fn at *
        generalize fiE9 L fnd.data.toList = fe at *
        have HCT : Hid (∀ W, Row9 L W (.slice A2 L.length c2) → Pv9 W (.slice A2 (L.take most.toNat).length c2) (L.take most.toNat)) := HCT0
        clear HCT0
        obtain ⟨cut, hcut⟩ : ∃ cut, cut = (L.take most.toNat).length := ⟨_, rfl⟩
        rw [← hcut] at HCT HCU
        obtain ⟨m, hm⟩ : ∃ m, m = L.length := ⟨_, rfl⟩
        rw [← hm] at HFR HOF HLN HCT HCU HR5 HCP0 ⊢
        have HMM := Lib.hid hm
        have HCP : Hid (cut ≤ c2) := Nat.le_trans (by rw [HCU.out]; exact Nat.min_le_right _ _) HCP0
        obtain ⟨mn, hmn⟩ : ∃ mn : Int, mn = min most (m : Int) := ⟨_, rfl⟩
        have HMN : Hid (min most (m : Int) = mn) := hmn.symm
        have HMX : Hid (max 0 mn = (cut : Int)) := by
          have h1 := HCU.out
          show _ = _
          rw [hmn, h1]
          omega
        have HGG : Hid ((gt.toList != gt.toList) = false ∧ (gt.toList == gt.toList) = true) := ⟨by simp, by simp⟩
        have HFF : Hid ((fn.toList != fn.toList) = false ∧ (fn.toList == fn.toList) = true) := ⟨by simp, by simp⟩
        have HII : Hid ((is != is) = false) := by show _ = _; simp
        clear hm hcut hmn HCP0
        have HPV5 := Lib.hid (HPV.out w5 HO5.out)
        have HFX5 := Lib.hid (HFX.out w5 HO5.out)
        go_wp2_with fail
        with_reducible refine HPV5.out.mono ?_
        rintro e w6 ⟨rfl, rfl⟩
        go_wp2_with fail
        with_reducible refine HFX5.out.mono ?_
        rintro e w7 ⟨rfl, hb⟩
        have HO7 := Lib.hid (HO5.out.later hb)
        have HR7 := Lib.hid (HR5.out.later hb)
        have HFR7 := Lib.hid (HFR.out w7 HR7.out)
        clear hb HPV HFX HFR HPV5 HFX5 HR5 HO5
        go_wp2_with fail
        with_reducible refine HFR7.out.mono ?_
        rintro e w8 ⟨rfl, hb⟩
        have HO8 := Lib.hid (HO7.out.later hb)
        have HR8 := Lib.hid (HR7.out.later hb)
        clear hb HFR7 HO7 HR7
        go_wp2_with fail
        refine wp_region_inv (by kernel_rfl) (fun W => Below w8.heap.size w8 W) (YPl9 0 B L A2 m c2 cut most mn name gt is fn fe) ?F3 ?hF3 (by kernel_rfl) (by kernel_rfl) (below_drew (Below.refl _ _)) ?step3 ?fin3
        case hF3 =>
          intro x
          simp only [List.map_cons, List.map_nil, putL, Act.put, List.setIfInBounds_toArray, List.set_cons_zero, List.set_cons_succ, Nat.zero_add, Nat.reduceAdd]
          exact rfl
        case step3 =>
          refine ⟨?_, ?_, ?_, ?_, ?_, ?_, ?_, ?_, ?_, ?_, ?_, ?_, ?_, ?_, ?_, ?_, ?_, ?_, ?_, ?_, ?_, ?_, ?_, ?_, ?_, ?_, ?_, ?_, ?_, ?_, ?_, ?_, ?_, ?_, ?_, ?_, ?_, ?_, ?_, ?_, ?_, ?_, ?_, ?_, ?_, ?_, ?_, ?_, ?_, ?_, ?_, ?_, ?_, ?_, trivial⟩
          · intro x W hR hdep K hK
            clear hdep
            go_simp
            exact hK _ _ rfl hR (fun _ _ h => h)
          · intro x W hR hdep K hK
            clear hdep
            go_simp
            exact hK _ _ rfl hR (fun _ _ h => h)
          · intro x W hR hdep K hK
            have h0 : x 0 = _ := hdep 0 rfl
            have h1 : x 1 = _ := hdep 1 rfl
            clear hdep
            simp only [h0, h1] at hK
            go_simp
            exact hK _ _ rfl hR (fun _ _ h => h)
          · intro x W hR hdep K hK
            have h2 : x 2 = _ := hdep 2 rfl
            clear hdep
            simp only [h2] at hK
            go_simp
            exact hK _ _ rfl hR (fun _ _ h => h)
          · intro x W hR hdep K hK
            have h3 : x 3 = _ := hdep 3 rfl
            clear hdep
            simp only [h3] at hK
            go_simp
            exact hK _ _ rfl hR (fun _ _ h => h)
          · intro x W hR hdep K hK
            have h3 : x 3 = _ := hdep 3 rfl
            have h4 : x 4 = _ := hdep 4 rfl
            clear hdep
            simp only [h3, h4] at hK
            go_simp
            refine (HLN.out W (HO8.out.later hR)).mono ?_
            rintro e W' ⟨rfl, rfl⟩
            exact hK _ _ rfl hR (fun _ _ h => h)
          · intro x W hR hdep K hK
            have h3 : x 3 = _ := hdep 3 rfl
            clear hdep
            simp only [h3] at hK
            go_simp
            exact hK _ _ rfl hR (fun _ _ h => h)
          · intro x W hR hdep K hK
            have h3 : x 3 = _ := hdep 3 rfl
            have h6 : x 6 = _ := hdep 6 rfl
            clear hdep
            simp only [h3, h6] at hK
            go_simp
            exact hK _ _ rfl hR (fun _ _ h => h)
          · intro x W hR hdep K hK
            have h3 : x 3 = _ := hdep 3 rfl
            have h5 : x 5 = _ := hdep 5 rfl
            have h7 : x 7 = _ := hdep 7 rfl
            clear hdep
            simp only [h3, h5, h7] at hK
            go_simp
            exact hK _ _ rfl hR (fun _ _ h => h)
          · intro x W hR hdep K hK
            have h3 : x 3 = _ := hdep 3 rfl
            have h8 : x 8 = _ := hdep 8 rfl
            clear hdep
            simp only [h3, h8] at hK
            go_simp
            exact hK _ _ rfl hR (fun _ _ h => h)
          · intro x W hR hdep K hK
            have h9 : x 9 = _ := hdep 9 rfl
            clear hdep
            simp only [h9] at hK
            go_simp
            exact hK _ _ rfl hR (fun _ _ h => h)
          · intro x W hR hdep K hK
            have h10 : x 10 = _ := hdep 10 rfl
            clear hdep
            simp only [h10] at hK
            go_simp
            exact hK _ _ rfl hR (fun _ _ h => h)
          · intro x W hR hdep K hK
            have h10 : x 10 = _ := hdep 10 rfl
            have h11 : x 11 = _ := hdep 11 rfl
            clear hdep
            simp only [h10, h11] at hK
            go_simp
            refine (HO8.out.later hR).pairs100.mono ?_
            rintro e W' ⟨v, rfl, hp, hb⟩
            exact hK _ _ (Row9.of_own hp) (below_next hR hb) (fun j u h => YPl9_keep hb j u h)
          · intro x W hR hdep K hK
            have h10 : x 10 = _ := hdep 10 rfl
            clear hdep
            simp only [h10] at hK
            go_simp
            exact hK _ _ rfl hR (fun _ _ h => h)
          · intro x W hR hdep K hK
            have h10 : x 10 = _ := hdep 10 rfl
            have h12 : Row9 _ W (x 12) := hdep 12 rfl
            have h13 : x 13 = _ := hdep 13 rfl
            clear hdep
            simp only [h10, h13] at hK
            go_simp
            refine (same9_calls (x 12) (.slice A2 m c2) L W h12.pv (HR8.out.later hR).pv HLL.out).mono ?_
            rintro e W' ⟨rfl, hb⟩
            exact hK _ _ rfl (below_next hR hb) (fun j u h => YPl9_keep hb j u h)
          · intro x W hR hdep K hK
            have h10 : x 10 = _ := hdep 10 rfl
            have h14 : x 14 = _ := hdep 14 rfl
            clear hdep
            simp only [h10, h14] at hK
            go_simp
            exact hK _ _ rfl hR (fun _ _ h => h)
          · intro x W hR hdep K hK
            have h10 : x 10 = _ := hdep 10 rfl
            have h15 : x 15 = _ := hdep 15 rfl
            clear hdep
            simp only [h10, h15] at hK
            go_simp
            exact hK _ _ rfl hR (fun _ _ h => h)
          · intro x W hR hdep K hK
            have h16 : x 16 = _ := hdep 16 rfl
            clear hdep
            simp only [h16] at hK
            go_simp
            exact hK _ _ rfl hR (fun _ _ h => h)
          · intro x W hR hdep K hK
            have h17 : x 17 = _ := hdep 17 rfl
            clear hdep
            simp only [h17] at hK
            go_simp
            exact hK _ _ rfl hR (fun _ _ h => h)
          · intro x W hR hdep K hK
            have h17 : x 17 = _ := hdep 17 rfl
            clear hdep
            simp only [h17] at hK
            go_simp
            exact hK _ _ rfl hR (fun _ _ h => h)
          · intro x W hR hdep K hK
            have h17 : x 17 = _ := hdep 17 rfl
            have h18 : x 18 = _ := hdep 18 rfl
            have h19 : x 19 = _ := hdep 19 rfl
            clear hdep
            simp only [h17, h18, h19] at hK
            go_simp
            refine ((HO8.out.later hR).pairs most).mono ?_
            rintro e W' ⟨v, rfl, hp, hb⟩
            exact hK _ _ (Row9.of_own hp) (below_next hR hb) (fun j u h => YPl9_keep hb j u h)
          · intro x W hR hdep K hK
            have h17 : x 17 = _ := hdep 17 rfl
            clear hdep
            simp only [h17] at hK
            go_simp
            exact hK _ _ rfl hR (fun _ _ h => h)
          · intro x W hR hdep K hK
            have h17 : x 17 = _ := hdep 17 rfl
            clear hdep
            simp only [h17] at hK
            go_simp
            exact hK _ _ rfl hR (fun _ _ h => h)
          · intro x W hR hdep K hK
            have h17 : x 17 = _ := hdep 17 rfl
            clear hdep
            simp only [h17] at hK
            go_simp
            exact hK _ _ rfl hR (fun _ _ h => h)
          · intro x W hR hdep K hK
            have h17 : x 17 = _ := hdep 17 rfl
            have h23 : x 23 = _ := hdep 23 rfl
            clear hdep
            simp only [h17, h23] at hK
            go_simp
            exact hK _ _ rfl hR (fun _ _ h => h)
          · intro x W hR hdep K hK
            have h17 : x 17 = _ := hdep 17 rfl
            have h22 : x 22 = _ := hdep 22 rfl
            have h24 : x 24 = _ := hdep 24 rfl
            clear hdep
            simp only [h17, h22, h24] at hK
            have hq := HMN.out
            go_simp
            exact hK _ _ rfl hR (fun _ _ h => h)
          · intro x W hR hdep K hK
            have h17 : x 17 = _ := hdep 17 rfl
            have h25 : x 25 = _ := hdep 25 rfl
            clear hdep
            simp only [h17, h25] at hK
            have hq := HMX.out
            go_simp
            exact hK _ _ rfl hR (fun _ _ h => h)
          · intro x W hR hdep K hK
            have h17 : x 17 = _ := hdep 17 rfl
            have h21 : x 21 = _ := hdep 21 rfl
            have h26 : x 26 = _ := hdep 26 rfl
            clear hdep
            simp only [h17, h21, h26] at hK
            have hq := slice9 A2 m c2 cut HCP.out W
            go_simp
            exact hK _ _ rfl hR (fun _ _ h => h)
          · intro x W hR hdep K hK
            have h17 : x 17 = _ := hdep 17 rfl
            have h20 : Row9 _ W (x 20) := hdep 20 rfl
            have h27 : x 27 = _ := hdep 27 rfl
            clear hdep
            simp only [h17, h27] at hK
            go_simp
            refine (same9_calls (x 20) (.slice A2 cut c2) (L.take most.toNat) W h20.pv (HCT.out W (HR8.out.later hR)) (Nat.le_trans (List.length_take_le' _ _) HLL.out)).mono ?_
            rintro e W' ⟨rfl, hb⟩
            exact hK _ _ rfl (below_next hR hb) (fun j u h => YPl9_keep hb j u h)
          · intro x W hR hdep K hK
            have h17 : x 17 = _ := hdep 17 rfl
            have h28 : x 28 = _ := hdep 28 rfl
            clear hdep
            simp only [h17, h28] at hK
            go_simp
            exact hK _ _ rfl hR (fun _ _ h => h)
          · intro x W hR hdep K hK
            have h17 : x 17 = _ := hdep 17 rfl
            have h29 : x 29 = _ := hdep 29 rfl
            clear hdep
            simp only [h17, h29] at hK
            go_simp
            exact hK _ _ rfl hR (fun _ _ h => h)
          · intro x W hR hdep K hK
            have h30 : x 30 = _ := hdep 30 rfl
            clear hdep
            simp only [h30] at hK
            go_simp
            exact hK _ _ rfl hR (fun _ _ h => h)
          · intro x W hR hdep K hK
            have h31 : x 31 = _ := hdep 31 rfl
            clear hdep
            simp only [h31] at hK
            go_simp
            exact hK _ _ rfl hR (fun _ _ h => h)
          · intro x W hR hdep K hK
            have h31 : x 31 = _ := hdep 31 rfl
            clear hdep
            simp only [h31] at hK
            go_simp
            exact hK _ _ rfl hR (fun _ _ h => h)
          · intro x W hR hdep K hK
            have h31 : x 31 = _ := hdep 31 rfl
            clear hdep
            simp only [h31] at hK
            go_simp
            exact hK _ _ rfl hR (fun _ _ h => h)
          · intro x W hR hdep K hK
            have h31 : x 31 = _ := hdep 31 rfl
            have h33 : x 33 = _ := hdep 33 rfl
            have h34 : x 34 = _ := hdep 34 rfl
            clear hdep
            simp only [h31, h33, h34] at hK
            go_simp
            refine (HOF.out W (HR8.out.later hR)).mono ?_
            rintro e W' ⟨rfl, hb⟩
            exact hK _ _ rfl (below_next hR hb) (fun j u h => YPl9_keep hb j u h)
          · intro x W hR hdep K hK
            have h31 : x 31 = _ := hdep 31 rfl
            have h32 : x 32 = _ := hdep 32 rfl
            have h35 : x 35 = _ := hdep 35 rfl
            clear hdep
            simp only [h31, h32, h35] at hK
            have hq := HGG.out.1
            have hq2 := HGG.out.2
            go_simp
            exact hK _ _ rfl hR (fun _ _ h => h)
          · intro x W hR hdep K hK
            have h31 : x 31 = _ := hdep 31 rfl
            have h36 : x 36 = _ := hdep 36 rfl
            clear hdep
            simp only [h31, h36] at hK
            go_simp
            exact hK _ _ rfl hR (fun _ _ h => h)
          · intro x W hR hdep K hK
            have h37 : x 37 = _ := hdep 37 rfl
            clear hdep
            simp only [h37] at hK
            go_simp
            exact hK _ _ rfl hR (fun _ _ h => h)
          · intro x W hR hdep K hK
            have h38 : x 38 = _ := hdep 38 rfl
            clear hdep
            simp only [h38] at hK
            go_simp
            exact hK _ _ rfl hR (fun _ _ h => h)
          · intro x W hR hdep K hK
            have h38 : x 38 = _ := hdep 38 rfl
            clear hdep
            simp only [h38] at hK
            go_simp
            exact hK _ _ rfl hR (fun _ _ h => h)
          · intro x W hR hdep K hK
            have h38 : x 38 = _ := hdep 38 rfl
            have h40 : x 40 = _ := hdep 40 rfl
            clear hdep
            simp only [h38, h40] at hK
            have hq := HGT.out
            go_simp
            exact hK _ _ rfl hR (fun _ _ h => h)
          · intro x W hR hdep K hK
            have h38 : x 38 = _ := hdep 38 rfl
            have h39 : x 39 = _ := hdep 39 rfl
            have h41 : x 41 = _ := hdep 41 rfl
            clear hdep
            simp only [h38, h39, h41] at hK
            have hq := HII.out
            go_simp
            exact hK _ _ rfl hR (fun _ _ h => h)
          · intro x W hR hdep K hK
            have h38 : x 38 = _ := hdep 38 rfl
            have h42 : x 42 = _ := hdep 42 rfl
            clear hdep
            simp only [h38, h42] at hK
            go_simp
            exact hK _ _ rfl hR (fun _ _ h => h)
          · intro x W hR hdep K hK
            have h43 : x 43 = _ := hdep 43 rfl
            clear hdep
            simp only [h43] at hK
            go_simp
            exact hK _ _ rfl hR (fun _ _ h => h)
          · intro x W hR hdep K hK
            have h44 : x 44 = _ := hdep 44 rfl
            clear hdep
            simp only [h44] at hK
            go_simp
            exact hK _ _ rfl hR (fun _ _ h => h)
          · intro x W hR hdep K hK
            have h44 : x 44 = _ := hdep 44 rfl
            clear hdep
            simp only [h44] at hK
            go_simp
            exact hK _ _ rfl hR (fun _ _ h => h)
          · intro x W hR hdep K hK
            have h44 : x 44 = _ := hdep 44 rfl
            have h45 : x 45 = _ := hdep 45 rfl
            have h46 : x 46 = _ := hdep 46 rfl
            clear hdep
            simp only [h44, h45, h46] at hK
            have hq := HFF.out.1
            have hq2 := HFF.out.2
            go_simp
            exact hK _ _ rfl hR (fun _ _ h => h)
          · intro x W hR hdep K hK
            have h44 : x 44 = _ := hdep 44 rfl
            have h47 : x 47 = _ := hdep 47 rfl
            clear hdep
            simp only [h44, h47] at hK
            go_simp
            exact hK _ _ rfl hR (fun _ _ h => h)
          · intro x W hR hdep K hK
            have h48 : x 48 = _ := hdep 48 rfl
            clear hdep
            simp only [h48] at hK
            go_simp
            exact hK _ _ rfl hR (fun _ _ h => h)
          · intro x W hR hdep K hK
            have h49 : x 49 = _ := hdep 49 rfl
            clear hdep
            simp only [h49] at hK
            go_simp
            exact hK _ _ rfl hR (fun _ _ h => h)
          · intro x W hR hdep K hK
            have h49 : x 49 = _ := hdep 49 rfl
            clear hdep
            simp only [h49] at hK
            go_simp
            exact hK _ _ rfl hR (fun _ _ h => h)
          · intro x W hR hdep K hK
            have h49 : x 49 = _ := hdep 49 rfl
            have h50 : x 50 = _ := hdep 50 rfl
            have h51 : x 51 = _ := hdep 51 rfl
            clear hdep
            simp only [h49, h50, h51] at hK
            go_simp
            exact hK _ _ rfl hR (fun _ _ h => h)
          · intro x W hR hdep K hK
            have h49 : x 49 = _ := hdep 49 rfl
            have h52 : x 52 = _ := hdep 52 rfl
            clear hdep
            simp only [h49, h52] at hK
            go_simp
            exact hK _ _ rfl hR (fun _ _ h => h)
        case fin3 =>
          intro x W hW hY
          have h53 : x 53 = _ := hY 53 (by decide)
          have HO9 := Lib.hid (HO8.out.later hW)
          have HR9 := Lib.hid (HR8.out.later hW)
          clear hY hW HO8 HR8 HLN HOF HCT
          rw [h53]
          clear h53
          go_wp2
          go_roundg (n - (k + 1))
          case measure => omega
          case rel => exact ⟨k + 1, _, L, by omega, by omega, by go_num, rfl, HO9, HLK, HR9⟩
      · have z2 : ((r : Int) == 2) = false := beq_eq_false_iff_ne.2 (by omega)
        have z3 : ((r : Int) == 3) = false := beq_eq_false_iff_ne.2 (by omega)
        have z4 : ((r : Int) == 4) = false := beq_eq_false_iff_ne.2 (by omega)
        have z2' : ¬ (r : Int) = 2 := by omega
        have z3' : ¬ (r : Int) = 3 := by omega
        have z4' : ¬ (r : Int) = 4 := by omega
        have HRA : Hid (Calls Tryd.prog 16 #[.slice A1 L0.length cc1, .string nm, .string hs] w4 (RSet9 (seE9 L0 nm.data.toList hs.data.toList) (seL9 L0 nm.data.toList hs.data.toList) w4)) := rset9_calls _ L0 nm hs w4 hg0 (by omega) (by omega) HR1.out
        have HXA : Hid (∀ W, Own9 w2 W B L0 → Calls Tryd.prog 15 #[.pointer (some ⟨B, 0, none⟩), .string nm, .string hs] W fun e w' => e = .returned (.int .i64 (seE9 L0 nm.data.toList hs.data.toList)) ∧ Own9 w2 w' B (seL9 L0 nm.data.toList hs.data.toList) ∧ Keeps9 W w') := fun W hW => hW.set nm hs (by omega) (by omega) (by omega) (H5.out.later (below_next HB2.out hW.below))
        have HLK : Hid ((seL9 L0 nm.data.toList hs.data.toList).length ≤ k + 1) := Nat.le_trans (seL9_len hg0.rise _ _) (by omega)
        generalize seE9 L0 nm.data.toList hs.data.toList = x1 at *
        generalize seL9 L0 nm.data.toList hs.data.toList = L at *
        clear hg0 r2 r3 r4
        go_wp2_with fail
        rw [← HW4.out, ← HNN.out]
        with_reducible refine HRA.out.mono ?_
        rintro e wa ⟨va, rfl, hra, hba⟩
        have HOa := Lib.hid (HO1.out.later hba)
        have HAa := Lib.hid (HA1.out.later hba)
        have HXB := Lib.hid (HXA.out wa HOa.out)
        have HRa := Lib.hid hra
        obtain ⟨A2, c2, rfl⟩ := hra.shape
        clear hra hba a0 a1 a2 HRA HXA HO1 HR1 HA1
        have a1 := HAa.out.c1
        have a2 := HAa.out.c2
        go_wp2_with fail
        with_reducible refine HXB.out.mono ?_
        rintro e w5 ⟨rfl, ho, hkp⟩
        have HO5 := Lib.hid ho
        have HR5 := Lib.hid (HRa.out.keeps hkp)
        clear ho hkp HXB HOa HAa HRa a1 a2
        have HPV : Hid (∀ W, Own9 w2 W B L → Calls Tryd.prog 17 #[.pointer (some ⟨B, 0, none⟩), .string name] W fun e w' => e = .returned (.tuple #[.string (tx7 (getE L name.data.toList)), .bool (hasE L name.data.toList)]) ∧ w' = W) := fun W hW => hW.of_ name (by omega)
        have HFX : Hid (∀ W, Own9 w2 W B L → Calls Tryd.prog 18 #[.pointer (some ⟨B, 0, none⟩), .string fnd] W fun e w' => e = .returned (.tuple #[.string (tx7 (fiS9 L fnd.data.toList)), .int .i64 (fiE9 L fnd.data.toList)]) ∧ Below W.heap.size W w') := fun W hW => hW.find fnd (by omega) (H5.out.later (below_next HB2.out hW.below))
        have hgood : Good9 L := ⟨HO5.out.mir, HO5.out.all, Nat.le_trans HO5.out.few (by decide)⟩
        have HFR : Hid (∀ W, Row9 L W (.slice A2 L.length c2) → Calls Tryd.prog 19 #[.slice A2 L.length c2, .string fnd] W fun e w' => e = .returned (.tuple #[.string (tx7 (fiS9 L fnd.data.toList)), .int .i64 (fiE9 L fnd.data.toList)]) ∧ Below W.heap.size W w') := fun W hW => rfind9_calls _ L fnd W hgood (by omega) hW
        have HOF : Hid (∀ W, Row9 L W (.slice A2 L.length c2) → Calls Tryd.prog 9 #[.slice A2 L.length c2, .string name] W fun e w' => e = .returned (.string (tx7 (getE L name.data.toList))) ∧ Below W.heap.size W w') := fun W hW => rof9_calls _ L name W (Nat.le_trans HO5.out.few (by decide)) hgood.rise hW
        have HLN : Hid (∀ W, Own9 w2 W B L → Calls Tryd.prog 20 #[.pointer (some ⟨B, 0, none⟩)] W fun e w' => e = .returned (.int .i64 L.length) ∧ w' = W) := fun W hW => hW.len
        have HGT : Hid (((tx7 (getE L name.data.toList)).toList != []) = hasE L name.data.toList ∧ (!(tx7 (getE L name.data.toList)).toList.isEmpty) = hasE L name.data.toList) := by
          show _ ∧ _
          cases hh : hasE L name.data.toList with
          | false => rw [getE_none hh, tx7_nil]; exact ⟨by rw [ByteArray.toList_eq]; rfl, by rw [ByteArray.toList_eq]; rfl⟩
          | true =>
            obtain ⟨t1, t2, _⟩ := tx7_some (hgood.has_ne hh)
            refine ⟨by simpa using t1, by rw [t2]; rfl⟩
        have HCP0 := cap9 HR5.out
        have HCT0 : Hid (∀ W, Row9 L W (.slice A2 L.length c2) → Pv9 W (.slice A2 (L.take most.toNat).length c2) (L.take most.toNat)) := fun W hW => take9 hW.pv most.toNat
        have HLL : Hid (L.length ≤ 1000) := Nat.le_trans HO5.out.few (by decide)
        have HCU : Hid ((L.take most.toNat).length = min most.toNat L.length) := List.length_take ..
        clear hgood
        generalize tx7 (getE L name.data.toList) = gt at *
        generalize hasE L name.data.toList = is at *
        generalize tx7 (fiS9 L fnd.data.toList) = fn at *
        generalize fiE9 L fnd.data.toList = fe at *
        have HCT : Hid (∀ W, Row9 L W (.slice A2 L.length c2) → Pv9 W (.slice A2 (L.take most.toNat).length c2) (L.take most.toNat)) := HCT0
        clear HCT0
        obtain ⟨cut, hcut⟩ : ∃ cut, cut = (L.take most.toNat).length := ⟨_, rfl⟩
        rw [← hcut] at HCT HCU
        obtain ⟨m, hm⟩ : ∃ m, m = L.length := ⟨_, rfl⟩
        rw [← hm] at HFR HOF HLN HCT HCU HR5 HCP0 ⊢
        have HMM := Lib.hid hm
        have HCP : Hid (cut ≤ c2) := Nat.le_trans (by rw [HCU.out]; exact Nat.min_le_right _ _) HCP0
        obtain ⟨mn, hmn⟩ : ∃ mn : Int, mn = min most (m : Int) := ⟨_, rfl⟩
        have HMN : Hid (min most (m : Int) = mn) := hmn.symm
        have HMX : Hid (max 0 mn = (cut : Int)) := by
          have h1 := HCU.out
          show _ = _
          rw [hmn, h1]
          omega
        have HGG : Hid ((gt.toList != gt.toList) = false ∧ (gt.toList == gt.toList) = true) := ⟨by simp, by simp⟩
        have HFF : Hid ((fn.toList != fn.toList) = false ∧ (fn.toList == fn.toList) = true) := ⟨by simp, by simp⟩
        have HII : Hid ((is != is) = false) := by show _ = _; simp
        clear hm hcut hmn HCP0
        have HPV5 := Lib.hid (HPV.out w5 HO5.out)
        have HFX5 := Lib.hid (HFX.out w5 HO5.out)
        go_wp2_with fail
        with_reducible refine HPV5.out.mono ?_
        rintro e w6 ⟨rfl, rfl⟩
        go_wp2_with fail
        with_reducible refine HFX5.out.mono ?_
        rintro e w7 ⟨rfl, hb⟩
        have HO7 := Lib.hid (HO5.out.later hb)
        have HR7 := Lib.hid (HR5.out.later hb)
        have HFR7 := Lib.hid (HFR.out w7 HR7.out)
        clear hb HPV HFX HFR HPV5 HFX5 HR5 HO5
        go_wp2_with fail
        with_reducible refine HFR7.out.mono ?_
        rintro e w8 ⟨rfl, hb⟩
        have HO8 := Lib.hid (HO7.out.later hb)
        have HR8 := Lib.hid (HR7.out.later hb)
        clear hb HFR7 HO7 HR7
        go_wp2_with fail
        refine wp_region_inv (by kernel_rfl) (fun W => Below w8.heap.size w8 W) (YPl9 x1 B L A2 m c2 cut most mn name gt is fn fe) ?F4 ?hF4 (by kernel_rfl) (by kernel_rfl) (below_drew (Below.refl _ _)) ?step4 ?fin4
        case hF4 =>
          intro x
          simp only [List.map_cons, List.map_nil, putL, Act.put, List.setIfInBounds_toArray, List.set_cons_zero, List.set_cons_succ, Nat.zero_add, Nat.reduceAdd]
          exact rfl
        case step4 =>
          refine ⟨?_, ?_, ?_, ?_, ?_, ?_, ?_, ?_, ?_, ?_, ?_, ?_, ?_, ?_, ?_, ?_, ?_, ?_, ?_, ?_, ?_, ?_, ?_, ?_, ?_, ?_, ?_, ?_, ?_, ?_, ?_, ?_, ?_, ?_, ?_, ?_, ?_, ?_, ?_, ?_, ?_, ?_, ?_, ?_, ?_, ?_, ?_, ?_, ?_, ?_, ?_, ?_, ?_, ?_, trivial⟩
          · intro x W hR hdep K hK
            clear hdep
            go_simp
            exact hK _ _ rfl hR (fun _ _ h => h)
          · intro x W hR hdep K hK
            clear hdep
            go_simp
            exact hK _ _ rfl hR (fun _ _ h => h)
          · intro x W hR hdep K hK
            have h0 : x 0 = _ := hdep 0 rfl
            have h1 : x 1 = _ := hdep 1 rfl
            clear hdep
            simp only [h0, h1] at hK
            go_simp
            exact hK _ _ rfl hR (fun _ _ h => h)
          · intro x W hR hdep K hK
            have h2 : x 2 = _ := hdep 2 rfl
            clear hdep
            simp only [h2] at hK
            go_simp
            exact hK _ _ rfl hR (fun _ _ h => h)
          · intro x W hR hdep K hK
            have h3 : x 3 = _ := hdep 3 rfl
            clear hdep
            simp only [h3] at hK
            go_simp
            exact hK _ _ rfl hR (fun _ _ h => h)
          · intro x W hR hdep K hK
            have h3 : x 3 = _ := hdep 3 rfl
            have h4 : x 4 = _ := hdep 4 rfl
            clear hdep
            simp only [h3, h4] at hK
            go_simp
            refine (HLN.out W (HO8.out.later hR)).mono ?_
            rintro e W' ⟨rfl, rfl⟩
            exact hK _ _ rfl hR (fun _ _ h => h)
          · intro x W hR hdep K hK
            have h3 : x 3 = _ := hdep 3 rfl
            clear hdep
            simp only [h3] at hK
            go_simp
            exact hK _ _ rfl hR (fun _ _ h => h)
          · intro x W hR hdep K hK
            have h3 : x 3 = _ := hdep 3 rfl
            have h6 : x 6 = _ := hdep 6 rfl
            clear hdep
            simp only [h3, h6] at hK
            go_simp
            exact hK _ _ rfl hR (fun _ _ h => h)
          · intro x W hR hdep K hK
            have h3 : x 3 = _ := hdep 3 rfl
            have h5 : x 5 = _ := hdep 5 rfl
            have h7 : x 7 = _ := hdep 7 rfl
            clear hdep
            simp only [h3, h5, h7] at hK
            go_simp
            exact hK _ _ rfl hR (fun _ _ h => h)
          · intro x W hR hdep K hK
            have h3 : x 3 = _ := hdep 3 rfl
            have h8 : x 8 = _ := hdep 8 rfl
            clear hdep
            simp only [h3, h8] at hK
            go_simp
            exact hK _ _ rfl hR (fun _ _ h => h)
          · intro x W hR hdep K hK
            have h9 : x 9 = _ := hdep 9 rfl
            clear hdep
            simp only [h9] at hK
            go_simp
            exact hK _ _ rfl hR (fun _ _ h => h)
          · intro x W hR hdep K hK
            have h10 : x 10 = _ := hdep 10 rfl
            clear hdep
            simp only [h10] at hK
            go_simp
            exact hK _ _ rfl hR (fun _ _ h => h)
          · intro x W hR hdep K hK
            have h10 : x 10 = _ := hdep 10 rfl
            have h11 : x 11 = _ := hdep 11 rfl
            clear hdep
            simp only [h10, h11] at hK
            go_simp
            refine (HO8.out.later hR).pairs100.mono ?_
            rintro e W' ⟨v, rfl, hp, hb⟩
            exact hK _ _ (Row9.of_own hp) (below_next hR hb) (fun j u h => YPl9_keep hb j u h)
          · intro x W hR hdep K hK
            have h10 : x 10 = _ := hdep 10 rfl
            clear hdep
            simp only [h10] at hK
            go_simp
            exact hK _ _ rfl hR (fun _ _ h => h)
          · intro x W hR hdep K hK
            have h10 : x 10 = _ := hdep 10 rfl
            have h12 : Row9 _ W (x 12) := hdep 12 rfl
            have h13 : x 13 = _ := hdep 13 rfl
            clear hdep
            simp only [h10, h13] at hK
            go_simp
            refine (same9_calls (x 12) (.slice A2 m c2) L W h12.pv (HR8.out.later hR).pv HLL.out).mono ?_
            rintro e W' ⟨rfl, hb⟩
            exact hK _ _ rfl (below_next hR hb) (fun j u h => YPl9_keep hb j u h)
          · intro x W hR hdep K hK
            have h10 : x 10 = _ := hdep 10 rfl
            have h14 : x 14 = _ := hdep 14 rfl
            clear hdep
            simp only [h10, h14] at hK
            go_simp
            exact hK _ _ rfl hR (fun _ _ h => h)
          · intro x W hR hdep K hK
            have h10 : x 10 = _ := hdep 10 rfl
            have h15 : x 15 = _ := hdep 15 rfl
            clear hdep
            simp only [h10, h15] at hK
            go_simp
            exact hK _ _ rfl hR (fun _ _ h => h)
          · intro x W hR hdep K hK
            have h16 : x 16 = _ := hdep 16 rfl
            clear hdep
            simp only [h16] at hK
            go_simp
            exact hK _ _ rfl hR (fun _ _ h => h)
          · intro x W hR hdep K hK
            have h17 : x 17 = _ := hdep 17 rfl
            clear hdep
            simp only [h17] at hK
            go_simp
            exact hK _ _ rfl hR (fun _ _ h => h)
          · intro x W hR hdep K hK
            have h17 : x 17 = _ := hdep 17 rfl
            clear hdep
            simp only [h17] at hK
            go_simp
            exact hK _ _ rfl hR (fun _ _ h => h)
          · intro x W hR hdep K hK
            have h17 : x 17 = _ := hdep 17 rfl
            have h18 : x 18 = _ := hdep 18 rfl
            have h19 : x 19 = _ := hdep 19 rfl
            clear hdep
            simp only [h17, h18, h19] at hK
            go_simp
            refine ((HO8.out.later hR).pairs most).mono ?_
            rintro e W' ⟨v, rfl, hp, hb⟩
            exact hK _ _ (Row9.of_own hp) (below_next hR hb) (fun j u h => YPl9_keep hb j u h)
          · intro x W hR hdep K hK
            have h17 : x 17 = _ := hdep 17 rfl
            clear hdep
            simp only [h17] at hK
            go_simp
            exact hK _ _ rfl hR (fun _ _ h => h)
          · intro x W hR hdep K hK
            have h17 : x 17 = _ := hdep 17 rfl
            clear hdep
            simp only [h17] at hK
            go_simp
            exact hK _ _ rfl hR (fun _ _ h => h)
          · intro x W hR hdep K hK
            have h17 : x 17 = _ := hdep 17 rfl
            clear hdep
            simp only [h17] at hK
            go_simp
            exact hK _ _ rfl hR (fun _ _ h => h)
          · intro x W hR hdep K hK
            have h17 : x 17 = _ := hdep 17 rfl
            have h23 : x 23 = _ := hdep 23 rfl
            clear hdep
            simp only [h17, h23] at hK
            go_simp
            exact hK _ _ rfl hR (fun _ _ h => h)
          · intro x W hR hdep K hK
            have h17 : x 17 = _ := hdep 17 rfl
            have h22 : x 22 = _ := hdep 22 rfl
            have h24 : x 24 = _ := hdep 24 rfl
            clear hdep
            simp only [h17, h22, h24] at hK
            have hq := HMN.out
            go_simp
            exact hK _ _ rfl hR (fun _ _ h => h)
          · intro x W hR hdep K hK
            have h17 : x 17 = _ := hdep 17 rfl
            have h25 : x 25 = _ := hdep 25 rfl
            clear hdep
            simp only [h17, h25] at hK
            have hq := HMX.out
            go_simp
            exact hK _ _ rfl hR (fun _ _ h => h)
          · intro x W hR hdep K hK
            have h17 : x 17 = _ := hdep 17 rfl
            have h21 : x 21 = _ := hdep 21 rfl
            have h26 : x 26 = _ := hdep 26 rfl
            clear hdep
            simp only [h17, h21, h26] at hK
            have hq := slice9 A2 m c2 cut HCP.out W
            go_simp
            exact hK _ _ rfl hR (fun _ _ h => h)
          · intro x W hR hdep K hK
            have h17 : x 17 = _ := hdep 17 rfl
            have h20 : Row9 _ W (x 20) := hdep 20 rfl
            have h27 : x 27 = _ := hdep 27 rfl
            clear hdep
            simp only [h17, h27] at hK
            go_simp
            refine (same9_calls (x 20) (.slice A2 cut c2) (L.take most.toNat) W h20.pv (HCT.out W (HR8.out.later hR)) (Nat.le_trans (List.length_take_le' _ _) HLL.out)).mono ?_
            rintro e W' ⟨rfl, hb⟩
            exact hK _ _ rfl (below_next hR hb) (fun j u h => YPl9_keep hb j u h)
          · intro x W hR hdep K hK
            have h17 : x 17 = _ := hdep 17 rfl
            have h28 : x 28 = _ := hdep 28 rfl
            clear hdep
            simp only [h17, h28] at hK
            go_simp
            exact hK _ _ rfl hR (fun _ _ h => h)
          · intro x W hR hdep K hK
            have h17 : x 17 = _ := hdep 17 rfl
            have h29 : x 29 = _ := hdep 29 rfl
            clear hdep
            simp only [h17, h29] at hK
            go_simp
            exact hK _ _ rfl hR (fun _ _ h => h)
          · intro x W hR hdep K hK
            have h30 : x 30 = _ := hdep 30 rfl
            clear hdep
            simp only [h30] at hK
            go_simp
            exact hK _ _ rfl hR (fun _ _ h => h)
          · intro x W hR hdep K hK
            have h31 : x 31 = _ := hdep 31 rfl
            clear hdep
            simp only [h31] at hK
            go_simp
            exact hK _ _ rfl hR (fun _ _ h => h)
          · intro x W hR hdep K hK
            have h31 : x 31 = _ := hdep 31 rfl
            clear hdep
            simp only [h31] at hK
            go_simp
            exact hK _ _ rfl hR (fun _ _ h => h)
          · intro x W hR hdep K hK
            have h31 : x 31 = _ := hdep 31 rfl
            clear hdep
            simp only [h31] at hK
            go_simp
            exact hK _ _ rfl hR (fun _ _ h => h)
          · intro x W hR hdep K hK
            have h31 : x 31 = _ := hdep 31 rfl
            have h33 : x 33 = _ := hdep 33 rfl
            have h34 : x 34 = _ := hdep 34 rfl
            clear hdep
            simp only [h31, h33, h34] at hK
            go_simp
            refine (HOF.out W (HR8.out.later hR)).mono ?_
            rintro e W' ⟨rfl, hb⟩
            exact hK _ _ rfl (below_next hR hb) (fun j u h => YPl9_keep hb j u h)
          · intro x W hR hdep K hK
            have h31 : x 31 = _ := hdep 31 rfl
            have h32 : x 32 = _ := hdep 32 rfl
            have h35 : x 35 = _ := hdep 35 rfl
            clear hdep
            simp only [h31, h32, h35] at hK
            have hq := HGG.out.1
            have hq2 := HGG.out.2
            go_simp
            exact hK _ _ rfl hR (fun _ _ h => h)
          · intro x W hR hdep K hK
            have h31 : x 31 = _ := hdep 31 rfl
            have h36 : x 36 = _ := hdep 36 rfl
            clear hdep
            simp only [h31, h36] at hK
            go_simp
            exact hK _ _ rfl hR (fun _ _ h => h)
          · intro x W hR hdep K hK
            have h37 : x 37 = _ := hdep 37 rfl
            clear hdep
            simp only [h37] at hK
            go_simp
            exact hK _ _ rfl hR (fun _ _ h => h)
          · intro x W hR hdep K hK
            have h38 : x 38 = _ := hdep 38 rfl
            clear hdep
            simp only [h38] at hK
            go_simp
            exact hK _ _ rfl hR (fun _ _ h => h)
          · intro x W hR hdep K hK
            have h38 : x 38 = _ := hdep 38 rfl
            clear hdep
            simp only [h38] at hK
            go_simp
            exact hK _ _ rfl hR (fun _ _ h => h)
          · intro x W hR hdep K hK
            have h38 : x 38 = _ := hdep 38 rfl
            have h40 : x 40 = _ := hdep 40 rfl
            clear hdep
            simp only [h38, h40] at hK
            have hq := HGT.out
            go_simp
            exact hK _ _ rfl hR (fun _ _ h => h)
          · intro x W hR hdep K hK
            have h38 : x 38 = _ := hdep 38 rfl
            have h39 : x 39 = _ := hdep 39 rfl
            have h41 : x 41 = _ := hdep 41 rfl
            clear hdep
            simp only [h38, h39, h41] at hK
            have hq := HII.out
            go_simp
            exact hK _ _ rfl hR (fun _ _ h => h)
          · intro x W hR hdep K hK
            have h38 : x 38 = _ := hdep 38 rfl
            have h42 : x 42 = _ := hdep 42 rfl
            clear hdep
            simp only [h38, h42] at hK
            go_simp
            exact hK _ _ rfl hR (fun _ _ h => h)
          · intro x W hR hdep K hK
            have h43 : x 43 = _ := hdep 43 rfl
            clear hdep
            simp only [h43] at hK
            go_simp
            exact hK _ _ rfl hR (fun _ _ h => h)
          · intro x W hR hdep K hK
            have h44 : x 44 = _ := hdep 44 rfl
            clear hdep
            simp only [h44] at hK
            go_simp
            exact hK _ _ rfl hR (fun _ _ h => h)
          · intro x W hR hdep K hK
            have h44 : x 44 = _ := hdep 44 rfl
            clear hdep
            simp only [h44] at hK
            go_simp
            exact hK _ _ rfl hR (fun _ _ h => h)
          · intro x W hR hdep K hK
            have h44 : x 44 = _ := hdep 44 rfl
            have h45 : x 45 = _ := hdep 45 rfl
            have h46 : x 46 = _ := hdep 46 rfl
            clear hdep
            simp only [h44, h45, h46] at hK
            have hq := HFF.out.1
            have hq2 := HFF.out.2
            go_simp
            exact hK _ _ rfl hR (fun _ _ h => h)
          · intro x W hR hdep K hK
            have h44 : x 44 = _ := hdep 44 rfl
            have h47 : x 47 = _ := hdep 47 rfl
            clear hdep
            simp only [h44, h47] at hK
            go_simp
            exact hK _ _ rfl hR (fun _ _ h => h)
          · intro x W hR hdep K hK
            have h48 : x 48 = _ := hdep 48 rfl
            clear hdep
            simp only [h48] at hK
            go_simp
            exact hK _ _ rfl hR (fun _ _ h => h)
          · intro x W hR hdep K hK
            have h49 : x 49 = _ := hdep 49 rfl
            clear hdep
            simp only [h49] at hK
            go_simp
            exact hK _ _ rfl hR (fun _ _ h => h)
          · intro x W hR hdep K hK
            have h49 : x 49 = _ := hdep 49 rfl
            clear hdep
            simp only [h49] at hK
            go_simp
            exact hK _ _ rfl hR (fun _ _ h => h)
          · intro x W hR hdep K hK
            have h49 : x 49 = _ := hdep 49 rfl
            have h50 : x 50 = _ := hdep 50 rfl
            have h51 : x 51 = _ := hdep 51 rfl
            clear hdep
            simp only [h49, h50, h51] at hK
            go_simp
            exact hK _ _ rfl hR (fun _ _ h => h)
          · intro x W hR hdep K hK
            have h49 : x 49 = _ := hdep 49 rfl
            have h52 : x 52 = _ := hdep 52 rfl
            clear hdep
            simp only [h49, h52] at hK
            go_simp
            exact hK _ _ rfl hR (fun _ _ h => h)
        case fin4 =>
          intro x W hW hY
          have h53 : x 53 = _ := hY 53 (by decide)
          have HO9 := Lib.hid (HO8.out.later hW)
          have HR9 := Lib.hid (HR8.out.later hW)
          clear hY hW HO8 HR8 HLN HOF HCT
          rw [h53]
          clear h53
          go_wp2
          go_roundg (n - (k + 1))
          case measure => omega
          case rel => exact ⟨k + 1, _, L, by omega, by omega, by go_num, rfl, HO9, HLK, HR9⟩
    · have hltz : ¬ (k : Int) < (n : Int) := by omega
      obtain rfl : k = n := by omega
      have HB := Lib.hid (below_next HB2.out HW.out.below)
      clear HW HRW
      go_wp2
      go_ret
      exact ⟨rfl, HB.out⟩
end Go.Proofs.YtiodbghokiajjaaDoor
