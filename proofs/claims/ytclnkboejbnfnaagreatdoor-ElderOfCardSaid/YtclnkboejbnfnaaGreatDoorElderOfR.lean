/-
  The document's Of tells what the code's Of tells.
  Conditions: texts of at most 1000 bytes, at most 1000 users.
-/
import Derived.Test.YtclnkboejbnfnaaGreatDoorElderOf
import Derived.Test.YtclnkboejbnfnaaGreatDoorRefChk
import Derived.Test.YtclnkboejbnfnaaGreatDoorUserF
import Derived.Laws.Cover1
namespace Go.Proofs.YtclnkboejbnfnaaGreatDoor
open Go.RowKit Go.Maps Go.Sort Go.Shelf

theorem less7_cmp : ∀ (a b : List UInt8), Op.bytesLess a b = decide (Lib.compareBytes a b < 0)
  | [], [] => by decide
  | [], b :: bl => by simp [Op.bytesLess, Lib.compareBytes]
  | a :: al, [] => by simp [Op.bytesLess, Lib.compareBytes]
  | a :: al, b :: bl => by
    have ih := less7_cmp al bl
    unfold Op.bytesLess Lib.compareBytes
    by_cases h1 : a < b
    · simp [h1]
    · by_cases h2 : b < a
      · have h3 : ¬ a = b := fun h => by subst h; exact h1 h2
        simp [h1, h2, h3]
      · have h3 : a = b := UInt8.le_antisymm (UInt8.not_lt.1 h2) (UInt8.not_lt.1 h1)
        subst h3
        simp [h1] at ih ⊢
        exact ih
theorem less7_eq (x y : ByteArray) : Op.bytesLess x.toList y.toList = ahead6 x y := by
  unfold ahead6
  rw [ByteArray.toList_eq, ByteArray.toList_eq, less7_cmp]

set_option maxRecDepth 100000 in
set_option maxHeartbeats 4000000 in
theorem rof7_calls (A : Option Addr) (c n : Nat) (l : List Us) (w : World) (hl : n = l.length) (hn : n ≤ 1000) (hr : RdU7 w A l) (ho : ∀ u ∈ l, u.Ok w)
    (hf : ∀ u ∈ l, u.nm.size ≤ 1000 ∧ u.hs.size ≤ 1000 ∧ u.ml.size ≤ 1000 ∧ ∀ g ∈ u.gs, g.size ≤ 1000) :
    Calls Tryz.prog 14 #[.slice A n c, .int .i64 1] w (Errs5 (ofE l) w) := by
  have HR := Lib.hid hr
  have HL := Lib.hid hl
  have HO := Lib.hid ho
  have HFW := Lib.hid hf
  clear hr hl ho hf
  obtain ⟨r, hr⟩ : ∃ r, r = ofE l := ⟨_, rfl⟩
  rw [← hr]
  have HRR := Lib.hid hr
  clear hr
  go_enter Tryz.func14, Tryz.ntmps14
  go_wp2
  go_loopg [6, 7, 12] n (fun gg _ _ s12 wr => ∃ k : Nat, k ≤ n ∧ n - k ≤ gg ∧ s12 = .int .i64 k ∧ Hid (Below w.heap.size w wr) ∧ Hid (mayE l = mayE (l.drop k)))
  case atStart => exact ⟨0, Nat.zero_le _, by omega, rfl, Below.refl _ _, rfl⟩
  case round =>
    obtain ⟨k, hk, hg, rfl, HW, A0⟩ := hrel
    by_cases hlt : k < n
    · have hltz : (k : Int) < (n : Int) := by omega
      have hkl : k < l.length := HL.out ▸ hlt
      obtain ⟨b, off, rfl, hb, hc⟩ := (HR.out.later HW.out) (by intro e; rw [e] at hkl; exact absurd hkl (Nat.not_lt_zero _))
      have c0 : wr.cell? ⟨b, off + k * 5, none⟩ = some (.string l[k].nm) := hc k hkl 0 _ rfl
      have c1 : wr.cell? ⟨b, off + k * 5 + 1, none⟩ = some (.string l[k].hs) := hc k hkl 1 _ rfl
      have c2 : wr.cell? ⟨b, off + k * 5 + 2, none⟩ = some (.string l[k].ml) := hc k hkl 2 _ rfl
      have c3 : wr.cell? ⟨b, off + k * 5 + 3, none⟩ = some (.bool l[k].dis) := hc k hkl 3 _ rfl
      have c4 : wr.cell? ⟨b, off + k * 5 + 4, none⟩ = some (.slice l[k].ga l[k].gs.length l[k].gc) := hc k hkl 4 _ rfl
      have hb1 := below_next HW.out (below_alloc (Below.refl wr.heap.size wr) (.cells #[.string l[k].nm, .string l[k].hs, .string l[k].ml, .bool l[k].dis, .slice l[k].ga l[k].gs.length l[k].gc] 26))
      have hfw := HFW.out _ (List.getElem_mem hkl)
      have HC : Hid (Calls Tryz.prog 49 #[.int .i64 1, .agg #[.string l[k].nm, .string l[k].hs, .string l[k].ml, .bool l[k].dis, .slice l[k].ga l[k].gs.length l[k].gc]] (wr.alloc (.cells #[.string l[k].nm, .string l[k].hs, .string l[k].ml, .bool l[k].dis, .slice l[k].ga l[k].gs.length l[k].gc] 26)) (Errs5 (chk6 1 l[k]) (wr.alloc (.cells #[.string l[k].nm, .string l[k].hs, .string l[k].ml, .bool l[k].dis, .slice l[k].ga l[k].gs.length l[k].gc] 26)))) := rcheck6_calls 1 l[k] _ ((HO.out _ (List.getElem_mem hkl)).below hb1) hfw.1 hfw.2.1 hfw.2.2.1 hfw.2.2.2
      have HB1 := Lib.hid hb1
      have hA : mayE l = (if chk6 1 l[k] = 0 then mayE (l.drop (k + 1)) else chk6 1 l[k]) := by
        have := A0.out
        rw [List.drop_eq_getElem_cons hkl] at this
        exact this
      clear hc hb hb1 A0 hfw
      generalize chk6 1 l[k] = x at *
      generalize l[k].nm = nm at *
      generalize l[k].hs = hs at *
      generalize l[k].ml = ml at *
      generalize l[k].dis = dis at *
      generalize l[k].ga = ga at *
      generalize l[k].gs.length = gl at *
      generalize l[k].gc = gc at *
      by_cases h0 : x = 0
      · rw [if_pos h0] at hA
        have HA := Lib.hid hA
        subst h0
        clear hA
        go_wp2_with (go_at_call 49; (with_reducible refine HC.out.mono ?_); rintro e w2 ⟨rfl, hb⟩; have HB2 := Lib.hid (below_next HB1.out hb); clear hb)
        go_roundg (n - (k + 1))
        case measure => omega
        case rel => exact ⟨k + 1, by omega, by omega, by go_num, HB2, HA⟩
      · rw [if_neg h0] at hA
        have hrx : r = x := by
          rw [HRR.out]
          unfold ofE first7
          rw [hA, if_neg h0]
        clear hA
        subst hrx
        have hx1 : (r != 0) = true := by simpa using h0
        go_wp2_with (go_at_call 49; (with_reducible refine HC.out.mono ?_); rintro e w2 ⟨rfl, hb⟩; have HB2 := Lib.hid (below_next HB1.out hb); clear hb)
        go_ret
        exact ⟨rfl, HB2.out⟩
    · have hltz : ¬ (k : Int) < (n : Int) := by omega
      have hA : mayE l = 0 := by
        have := A0.out
        rw [List.drop_eq_nil_of_le (by have := HL.out; omega)] at this
        exact this
      have HR2 : Hid (r = first7 [err5 (rise6 (l.map (·.nm))) 9, err5 (decide ((l.length : Int) ≤ 12)) 7]) := by
        rw [HRR.out]
        unfold ofE
        rw [hA]
        rfl
      clear A0 hA HRR
      go_wp2
      go_loopg [8, 9, 25] n (fun gg _ _ s25 w9 => ∃ k : Nat, k ≤ n ∧ n - k ≤ gg ∧ s25 = .int .i64 k ∧ Hid (Below w.heap.size w w9) ∧ Hid (∀ j (h : j + 1 < l.length), j + 1 < k → ahead6 l[j].nm l[j + 1].nm = true))
      case atStart => exact ⟨0, Nat.zero_le _, by omega, rfl, HW.out, fun j _ hj => absurd hj (by omega)⟩
      case round =>
        clear HW hlt hltz hk hg
        obtain ⟨k, hk, hg, rfl, HW, HT⟩ := hrel
        by_cases hlt : k < n
        · have hltz : (k : Int) < (n : Int) := by omega
          have hkl : k < l.length := HL.out ▸ hlt
          obtain ⟨b, off, rfl, hb, hc⟩ := (HR.out.later HW.out) (by intro e; rw [e] at hkl; exact absurd hkl (Nat.not_lt_zero _))
          have c0 : wr.cell? ⟨b, off + k * 5, none⟩ = some (.string l[k].nm) := hc k hkl 0 _ rfl
          have c1 : wr.cell? ⟨b, off + k * 5 + 1, none⟩ = some (.string l[k].hs) := hc k hkl 1 _ rfl
          have c2 : wr.cell? ⟨b, off + k * 5 + 2, none⟩ = some (.string l[k].ml) := hc k hkl 2 _ rfl
          have c3 : wr.cell? ⟨b, off + k * 5 + 3, none⟩ = some (.bool l[k].dis) := hc k hkl 3 _ rfl
          have c4 : wr.cell? ⟨b, off + k * 5 + 4, none⟩ = some (.slice l[k].ga l[k].gs.length l[k].gc) := hc k hkl 4 _ rfl
          have HB1 := Lib.hid (below_next HW.out (below_alloc (Below.refl wr.heap.size wr) (.cells #[.string l[k].nm, .string l[k].hs, .string l[k].ml, .bool l[k].dis, .slice l[k].ga l[k].gs.length l[k].gc] 26)))
          by_cases hk0 : k = 0
          · have hz0 : ¬ (k : Int) > 0 := by omega
            have hz0' : ¬ 0 < (k : Int) := by omega
            have hkn : ¬ 0 < k := by omega
            have hkd : decide (0 < k) = false := decide_eq_false hkn
            have HY : Hid (∀ j (h : j + 1 < l.length), j + 1 < k + 1 → ahead6 l[j].nm l[j + 1].nm = true) := fun j h hj => absurd hj (by omega)
            clear hc hb HT hk0
            generalize l[k].nm = nm at *
            generalize l[k].hs = hs at *
            generalize l[k].ml = ml at *
            generalize l[k].dis = dis at *
            generalize l[k].ga = ga at *
            generalize l[k].gs.length = gl at *
            generalize l[k].gc = gc at *
            go_wp2_with fail
            have e0 : (wr.alloc (.cells #[.string nm, .string hs, .string ml, .bool dis, .slice ga gl gc] 26)).cell? ⟨wr.heap.size, 0, none⟩ = some (.string nm) := by simp
            generalize wr.alloc (.cells #[.string nm, .string hs, .string ml, .bool dis, .slice ga gl gc] 26) = w9 at *
            go_quiet (fail)
            go_wp2
            go_roundg (n - (k + 1))
            case measure => omega
            case rel => exact ⟨k + 1, by omega, by omega, by go_num, below_drewN HB1.out _, HY⟩
          · have hkl' : k - 1 < l.length := by omega
            have hz0 : (k : Int) > 0 := by omega
            have hkp : 0 < k := by omega
            have hkd : decide (0 < k) = true := decide_eq_true hkp
            have zk : (k : Int) - 1 = ((k - 1 : Nat) : Int) := by omega
            have hwr : IntKind.i64.wrap ((k - 1 : Nat) : Int) = ((k - 1 : Nat) : Int) := IntWalk.i64_in _ (by omega)
            have z1 : ((k - 1 : Nat) : Int) < (n : Int) := by omega
            have d0 : wr.cell? ⟨b, off + (k - 1) * 5, none⟩ = some (.string l[k - 1].nm) := hc (k - 1) hkl' 0 _ rfl
            have d1 := (below_alloc (Below.refl wr.heap.size wr) (.cells #[.string l[k].nm, .string l[k].hs, .string l[k].ml, .bool l[k].dis, .slice l[k].ga l[k].gs.length l[k].gc] 26)).cell (p := ⟨b, off + (k - 1) * 5, none⟩) hb |>.trans d0
            have hle := less7_eq l[k - 1].nm l[k].nm
            have HX : Hid (ahead6 l[k - 1].nm l[k].nm = true → ∀ j (h : j + 1 < l.length), j + 1 < k + 1 → ahead6 l[j].nm l[j + 1].nm = true) := fun hq j h hj => by
              by_cases e : j = k - 1
              · subst e
                have : l[k - 1 + 1] = l[k] := by congr 1; omega
                rw [this]; exact hq
              · exact HT.out j h (by omega)
            have HF : Hid (ahead6 l[k - 1].nm l[k].nm = false → r = 9) := fun hf => by
              have : rise6 (l.map (·.nm)) = false := rise6_bad (l.map (·.nm)) (k - 1) (by simp; omega) (by
                have : l[k - 1 + 1] = l[k] := by congr 1; omega
                simp only [List.getElem_map, this]; exact hf)
              rw [HR2.out, this]; rfl
            clear HT hc
            generalize ahead6 l[k - 1].nm l[k].nm = bb at *
            generalize l[k].nm = nm at *
            generalize l[k].hs = hs at *
            generalize l[k].ml = ml at *
            generalize l[k].dis = dis at *
            generalize l[k].ga = ga at *
            generalize l[k].gs.length = gl at *
            generalize l[k].gc = gc at *
            generalize l[k - 1].nm = y at *
            cases bb with
            | true =>
              have HY := Lib.hid (HX.out rfl)
              clear HX HF
              go_wp2_with fail
              have e0 : (wr.alloc (.cells #[.string nm, .string hs, .string ml, .bool dis, .slice ga gl gc] 26)).cell? ⟨wr.heap.size, 0, none⟩ = some (.string nm) := by simp
              generalize wr.alloc (.cells #[.string nm, .string hs, .string ml, .bool dis, .slice ga gl gc] 26) = w9 at *
              go_quiet (fail)
              go_wp2
              go_roundg (n - (k + 1))
              case measure => omega
              case rel => exact ⟨k + 1, by omega, by omega, by go_num, below_drewN HB1.out _, HY⟩
            | false =>
              have hr : r = 9 := HF.out rfl
              subst hr
              clear HX HF HR2
              go_wp2_with fail
              have e0 : (wr.alloc (.cells #[.string nm, .string hs, .string ml, .bool dis, .slice ga gl gc] 26)).cell? ⟨wr.heap.size, 0, none⟩ = some (.string nm) := by simp
              generalize wr.alloc (.cells #[.string nm, .string hs, .string ml, .bool dis, .slice ga gl gc] 26) = w9 at *
              go_quiet (fail)
              go_wp2
              go_ret
              exact ⟨rfl, below_drewN HB1.out _⟩
        · have hltz : ¬ (k : Int) < (n : Int) := by omega
          have hri : rise6 (l.map (·.nm)) = true := rise6_all (l.map (·.nm)) (fun j h => by
            have h' : j + 1 < l.length := by simpa using h
            have := HT.out j h' (by have := HL.out; omega)
            simpa using this)
          have hr2 := HR2.out
          rw [hri, ← HL.out] at hr2
          clear HT HR2 hri
          by_cases h12 : n > 12
          · have z12 : (n : Int) > 12 := by omega
            have hr7 : r = 7 := by
              rw [hr2, decide_eq_false (show ¬ (n : Int) ≤ 12 by omega)]; rfl
            clear hr2
            subst hr7
            go_wp2
            go_ret
            exact ⟨rfl, HW.out⟩
          · have z12 : ¬ (n : Int) > 12 := by omega
            have hr0 : r = 0 := by
              rw [hr2, decide_eq_true (show (n : Int) ≤ 12 by omega)]; rfl
            clear hr2
            subst hr0
            go_wp2
            go_ret
            exact ⟨rfl, HW.out⟩
end Go.Proofs.YtclnkboejbnfnaaGreatDoor
