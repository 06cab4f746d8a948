/-
  The document's Same.
  Conditions: rows are no longer than they may be.
-/
import Derived.Test.YtclnkboejbnfnaaGreatDoorUserG
namespace Go.Proofs.YtclnkboejbnfnaaGreatDoor
open Go.RowKit

set_option maxRecDepth 100000 in
set_option maxHeartbeats 2000000 in
theorem rsame6_calls (a b : Us) (w : World) (ha : a.Ok w) (hb : b.Ok w) : Calls Tryz.prog 51 #[a.v, b.v] w (Tells5 (sameU a b) w) := by
  have HB0 := Lib.hid (below_alloc (below_alloc (Below.refl w.heap.size w) (.cells a.cells 26)) (.cells b.cells 26))
  have HUA : Hid (UsAt ((w.alloc (.cells a.cells 26)).alloc (.cells b.cells 26)) w.heap.size a) := (UsAt.new w a _).below (below_alloc (Below.refl _ _) _)
  have HUB : Hid (UsAt ((w.alloc (.cells a.cells 26)).alloc (.cells b.cells 26)) (w.heap.size + 1) b) := by
    have h := UsAt.new (w.alloc (.cells a.cells 26)) b 26
    rw [show (w.alloc (.cells a.cells 26)).heap.size = w.heap.size + 1 by simp] at h
    exact Lib.hid h
  have HRA := Lib.hid (ha.rd.below HB0.out)
  have HRB := Lib.hid (hb.rd.below HB0.out)
  have hla := Nat.le_trans ha.len ha.cap
  have hlb := Nat.le_trans hb.len hb.cap
  clear ha hb
  unfold sameU Us.v
  unfold Us.cells at *
  obtain ⟨nm, hs, ml, dis, A, gs, c⟩ := a
  obtain ⟨nm', hs', ml', dis', A', gs', c'⟩ := b
  dsimp only at *
  obtain ⟨n, hn⟩ : ∃ n, n = gs.length := ⟨_, rfl⟩
  obtain ⟨m, hm⟩ : ∃ m, m = gs'.length := ⟨_, rfl⟩
  have HN := Lib.hid hn
  have HM := Lib.hid hm
  have hu4 : _ = some (.slice A gs.length c : Value) := HUA.out.c4
  have hv4 : _ = some (.slice A' gs'.length c' : Value) := HUB.out.c4
  rw [← hn] at HB0 HRA HRB hla hu4 hv4 ⊢
  rw [← hm] at HB0 HRA HRB hlb hu4 hv4 ⊢
  clear hn hm HUA HUB
  obtain ⟨r, hr⟩ : ∃ r, r = (decide (nm = nm') && decide (hs = hs') && decide (ml = ml') && decide (dis = dis') && decide (gs = gs')) := ⟨_, rfl⟩
  rw [← hr]
  have HR := Lib.hid hr
  clear hr
  by_cases h1 : nm = nm'
  · by_cases h2 : hs = hs'
    · by_cases h3 : ml = ml'
      · by_cases h4 : dis = dis'
        · have HR2 : Hid (r = decide (gs = gs')) := by rw [HR.out]; simp [h1, h2, h3, h4, Hid]
          subst h1; subst h2; subst h3; subst h4
          clear HR
          have h4d : (dis != dis) = false := by simp
          by_cases hnm : n = m
          · subst hnm
            have hnn : ((n : Int) != (n : Int)) = false := by simp
            go_enter Tryz.func51, Tryz.ntmps51
            go_wp2
            generalize (w.alloc (.cells #[.string nm, .string hs, .string ml, .bool dis, .slice A n c] 26)).alloc (.cells #[.string nm, .string hs, .string ml, .bool dis, .slice A' n c'] 26) = w1 at *
            go_loopg [5, 44] n (fun gg _ s44 wr => ∃ k : Nat, k ≤ n ∧ n - k ≤ gg ∧ s44 = .int .i64 k ∧ (∃ q, wr = w1.drewN q) ∧ Hid (gs.take k = gs'.take k))
            case atStart => exact ⟨0, Nat.zero_le _, by omega, rfl, ⟨0, rfl⟩, rfl⟩
            case round =>
              obtain ⟨k, hk, hg, rfl, ⟨q, hq⟩, HT⟩ := hrel
              have HQ := Lib.hid hq
              have HW : Hid (RdS wr A gs ∧ RdS wr A' gs') := by
                rw [hq]
                exact ⟨HRA.out.below (below_drewN (Below.refl _ _) q), HRB.out.below (below_drewN (Below.refl _ _) q)⟩
              have x4 : ∀ i, (wr.drewN i).cell? ⟨w.heap.size, 4, none⟩ = some (.slice A n c) := fun i => by rw [hq]; exact hu4
              have y4 : ∀ i, (wr.drewN i).cell? ⟨w.heap.size + 1, 4, none⟩ = some (.slice A' n c') := fun i => by rw [hq]; exact hv4
              clear hq
              by_cases hlt : k < n
              · have hltz : (k : Int) < (n : Int) := by omega
                have hk1 : k < gs.length := by have := HN.out; omega
                have hk2 : k < gs'.length := by have := HM.out; omega
                obtain ⟨b1, o1, rfl, hc1⟩ := HW.out.1.at6 k hk1
                obtain ⟨b2, o2, rfl, hc2⟩ := HW.out.2.at6 k hk2
                have hd1 : ∀ i, (wr.drewN i).cell? ⟨b1, o1 + k, none⟩ = some (.string gs[k]) := fun i => hc1
                have hd2 : ∀ i, (wr.drewN i).cell? ⟨b2, o2 + k, none⟩ = some (.string gs'[k]) := fun i => hc2
                have HX : Hid (gs[k] = gs'[k] → gs.take (k + 1) = gs'.take (k + 1)) := fun e => by
                  rw [List.take_succ_eq_append_getElem hk1, List.take_succ_eq_append_getElem hk2, HT.out, e]
                have HF : Hid (gs[k] ≠ gs'[k] → r = false) := fun e => by
                  rw [HR2.out, decide_eq_false_iff_not]
                  intro e2
                  subst e2
                  exact e rfl
                clear hc1 hc2 HT HW
                generalize gs[k] = x at *
                generalize gs'[k] = y at *
                by_cases hxy : x = y
                · have HX2 := Lib.hid (HX.out hxy)
                  clear HX HF
                  subst hxy
                  go_wp2_with fail
                  go_quiet (fail)
                  go_wp2
                  go_roundg (n - (k + 1))
                  case measure => omega
                  case rel => exact ⟨k + 1, by omega, by omega, by go_num, ⟨q + nq, by rw [HQ.out, World.drewN_drewN]⟩, HX2⟩
                · have hr : r = false := HF.out hxy
                  subst hr
                  have hne := toList_ne6 hxy
                  have hne2 : (x.toList != y.toList) = true := by simpa using hne
                  have hne3 : (x.toList == y.toList) = false := by simpa using hne
                  have hne4 : ¬ x.toList = y.toList := hne
                  have hne5 : decide (x.toList = y.toList) = false := decide_eq_false hne
                  clear HX HF HR2
                  go_wp2_with fail
                  go_quiet (fail)
                  go_wp2
                  go_ret
                  exact ⟨rfl, by rw [HQ.out, World.drewN_drewN]; exact below_drewN HB0.out _⟩
              · have hltz : ¬ (k : Int) < (n : Int) := by omega
                obtain rfl : k = n := by omega
                have hr : r = true := by
                  rw [HR2.out, decide_eq_true_eq]
                  have h1 := HT.out
                  rw [HN.out, List.take_length] at h1
                  have h2 : gs'.take gs.length = gs' := List.take_of_length_le (by have := HN.out; have := HM.out; omega)
                  rw [h2] at h1
                  exact h1
                subst hr
                clear HT HR2 HW
                go_wp2
                go_ret
                exact ⟨rfl, by rw [HQ.out]; exact below_drewN HB0.out _⟩
          · have hr : r = false := by
              rw [HR2.out, decide_eq_false_iff_not]
              intro e
              exact hnm (by rw [HN.out, HM.out, e])
            subst hr
            have hnn : ((n : Int) != (m : Int)) = true := by simp; omega
            clear HR2
            go_enter Tryz.func51, Tryz.ntmps51
            go_wp2
            go_ret
            exact ⟨rfl, HB0.out⟩
        · have hr : r = false := by rw [HR.out]; simp [h4]
          subst hr
          subst h1; subst h2; subst h3
          clear HR
          have h4d : (dis != dis') = true := by simpa using h4
          go_enter Tryz.func51, Tryz.ntmps51
          go_wp2
          go_ret
          exact ⟨rfl, HB0.out⟩
      · have hr : r = false := by rw [HR.out]; simp [h3]
        subst hr
        subst h1; subst h2
        have hne := toList_ne6 h3
        have hne2 : (ml.toList != ml'.toList) = true := by simpa using hne
        clear HR h3
        go_enter Tryz.func51, Tryz.ntmps51
        go_wp2
        go_ret
        exact ⟨rfl, HB0.out⟩
    · have hr : r = false := by rw [HR.out]; simp [h2]
      subst hr
      subst h1
      have hne := toList_ne6 h2
      have hne2 : (hs.toList != hs'.toList) = true := by simpa using hne
      clear HR h2
      go_enter Tryz.func51, Tryz.ntmps51
      go_wp2
      go_ret
      exact ⟨rfl, HB0.out⟩
  · have hr : r = false := by rw [HR.out]; simp [h1]
    subst hr
    have hne := toList_ne6 h1
    have hne2 : (nm.toList != nm'.toList) = true := by simpa using hne
    clear HR h1
    go_enter Tryz.func51, Tryz.ntmps51
    go_wp2
    go_ret
    exact ⟨rfl, HB0.out⟩
end Go.Proofs.YtclnkboejbnfnaaGreatDoor
