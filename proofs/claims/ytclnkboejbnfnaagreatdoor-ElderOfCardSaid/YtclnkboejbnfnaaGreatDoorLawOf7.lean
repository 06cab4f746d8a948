/-
  ElderOf walked: what Of makes of users, and of what it was handed afterwards.
  Conditions: texts and rows are no longer than they may be; the library's own variable MaxLen holds some number.
-/
import Derived.Test.YtclnkboejbnfnaaGreatDoorOf7
namespace Go.Proofs.YtclnkboejbnfnaaGreatDoor
open Go.RowKit Go.Maps Go.Sort Go.Shelf

set_option maxRecDepth 100000 in
set_option maxHeartbeats 8000000 in
theorem of_walk (A : Option Addr) (c n : Nat) (l : List Us) (w : World) (hl : n = l.length) (hn : n ≤ 9223372036854775807) (hr : RdU7 w A l) (ho : ∀ u ∈ l, u.Ok w) (hm : Len5 w) :
    Calls Tryz.prog 3 #[.slice A n c] w (Tells5 true w) := by
  have hnot : ∀ (x : Bool) (w : World), (Op.unary .not (.bool x)).run Tryz.prog w = .ok (.bool (!x)) w := fun _ _ => rfl
  have HV : Hid (∀ W, Calls Tryz.prog 11 #[] W (Tells5 true W)) := fun W => lives7_calls W
  obtain ⟨i0, hi, hz0, hz1, hz2⟩ := info_parts infoUser7
  have HI := Lib.hid hi
  have HZ0 := Lib.hid hz0
  have HZ1 := Lib.hid hz1
  have HZ2 := Lib.hid hz2
  have HR := Lib.hid hr
  have HL := Lib.hid hl
  have HO := Lib.hid ho
  have HM := Lib.hid hm
  clear hr hl ho hm hi hz0 hz1 hz2
  go_enter Tryz.func3, Tryz.ntmps3
  go_wp2_with fail
  with_reducible refine (HV.out w).mono ?_
  rintro e w1 ⟨rfl, hb1⟩
  have HB1 := Lib.hid hb1
  clear hb1
  by_cases h30 : 30 < n
  · have z30 : (n : Int) > 30 := by omega
    go_wp2_with fail
    with_reducible refine (HV.out w1).mono ?_
    rintro e w2 ⟨rfl, hb2⟩
    have HB2 := Lib.hid (below_next HB1.out hb2)
    clear hb2
    go_wp2
    go_ret
    exact ⟨rfl, HB2.out⟩
  have z30 : ¬ (n : Int) > 30 := by omega
  clear HV
  go_wp2
  go_loopg [4, 21] n (fun gg _ s21 wr => ∃ k : Nat, k ≤ n ∧ n - k ≤ gg ∧ s21 = .int .i64 k ∧ Hid (Below w.heap.size w wr) ∧ Hid (∀ j (h : j < l.length), j < k → fewU l[j] = true))
  case atStart => exact ⟨0, Nat.zero_le _, by omega, rfl, HB1.out, fun j _ hj => absurd hj (Nat.not_lt_zero _)⟩
  case round =>
    obtain ⟨k, hk, hg, rfl, HW, A0⟩ := hrel
    by_cases hlt : k < n
    · have hltz : (k : Int) < (n : Int) := by omega
      have hkl : k < l.length := HL.out ▸ hlt
      obtain ⟨b, off, rfl, hb, hc⟩ := (HR.out.later HW.out) (by intro e; rw [e] at hkl; exact absurd hkl (Nat.not_lt_zero _))
      have c0 : wr.cell? ⟨b, off + k * 5, none⟩ = some (.string l[k].nm) := hc k hkl 0 _ rfl
      have c1 : wr.cell? ⟨b, off + k * 5 + 1, none⟩ = some (.string l[k].hs) := hc k hkl 1 _ rfl
      have c2 : wr.cell? ⟨b, off + k * 5 + 2, none⟩ = some (.string l[k].ml) := hc k hkl 2 _ rfl
      have c3 : wr.cell? ⟨b, off + k * 5 + 3, none⟩ = some (.bool l[k].dis) := hc k hkl 3 _ rfl
      have c4 : wr.cell? ⟨b, off + k * 5 + 4, none⟩ = some (.slice l[k].ga l[k].gs.length l[k].gc) := hc k hkl 4 _ rfl
      have hb1 := below_next HW.out (below_alloc (Below.refl wr.heap.size wr) (.cells #[.string l[k].nm, .string l[k].hs, .string l[k].ml, .bool l[k].dis, .slice l[k].ga l[k].gs.length l[k].gc] 26))
      have HC : Hid (Calls Tryz.prog 12 #[.agg #[.string l[k].nm, .string l[k].hs, .string l[k].ml, .bool l[k].dis, .slice l[k].ga l[k].gs.length l[k].gc]] (wr.alloc (.cells #[.string l[k].nm, .string l[k].hs, .string l[k].ml, .bool l[k].dis, .slice l[k].ga l[k].gs.length l[k].gc] 26)) (Tells5 (fewU l[k]) (wr.alloc (.cells #[.string l[k].nm, .string l[k].hs, .string l[k].ml, .bool l[k].dis, .slice l[k].ga l[k].gs.length l[k].gc] 26)))) := few6U_calls l[k] _ ((HO.out _ (List.getElem_mem hkl)).below hb1)
      have HB2 := Lib.hid hb1
      have HX : Hid (fewU l[k] = true → ∀ j (h : j < l.length), j < k + 1 → fewU l[j] = true) := fun hq j h hj => by
        by_cases e : j = k
        · subst e; exact hq
        · exact A0.out j h (by omega)
      clear hc hb hb1 A0
      generalize fewU l[k] = q at *
      generalize l[k].nm = nm at *
      generalize l[k].hs = hs at *
      generalize l[k].ml = ml at *
      generalize l[k].dis = dis at *
      generalize l[k].ga = ga at *
      generalize l[k].gs.length = gl at *
      generalize l[k].gc = gc at *
      cases q with
      | true =>
        have HY := Lib.hid (HX.out rfl)
        clear HX
        go_wp2_with (go_at_call 12; (with_reducible refine HC.out.mono ?_); rintro e w2 ⟨rfl, hb⟩; have HB3 := Lib.hid (below_next HB2.out hb); clear hb)
        go_roundg (n - (k + 1))
        case measure => omega
        case rel => exact ⟨k + 1, by omega, by omega, by go_num, HB3, HY⟩
      | false =>
        clear HX
        go_wp2_with (go_at_call 12; (with_reducible refine HC.out.mono ?_); rintro e w2 ⟨rfl, hb⟩; have HB3 := Lib.hid (below_next HB2.out hb); clear hb)
        go_ret
        exact ⟨rfl, HB3.out⟩
    · have hltz : ¬ (k : Int) < (n : Int) := by omega
      have HFW : Hid (∀ u ∈ l, fewU u = true) := fun u hu => by
        obtain ⟨j, hj, rfl⟩ := List.getElem_of_mem hu
        exact A0.out j hj (by have := HL.out; omega)
      have hsrc : Src Tryz.prog 5 22 (.slice A n c) n (ucells l) (wr.alloc (.cells #[] 26)) := by
        have := (HR.out.later (below_next HW.out (below_alloc (Below.refl wr.heap.size wr) (.cells #[] 26)))).src c
        rwa [← HL.out] at this
      have HSRC := Lib.hid hsrc
      have hmade : (wr.alloc (.cells #[] 26)).ownsRow 0 26 5 (.slice (some ⟨wr.heap.size, 0, none⟩) 0 0) 0 [] := World.ownsRow_made wr #[] 0 (Nat.zero_le _) (Nat.zero_le _) rfl
      have HMD := Lib.hid hmade
      clear A0 hsrc hmade hg hk
      go_wp2_with (at_builtin; refine wpList_append_src _ rfl (.tmp 29) (.tmp 30) 22 22 (by rfl) 26 i0 _ 5 80 Tryz.underlying22 HI.out HZ0.out HZ1.out HZ2.out rfl (.slice (some ⟨wr.heap.size, 0, none⟩) 0 0) 0 [] (by rfl) HMD.out (.slice A n c) n (ucells l) (by rfl) HSRC.out (by simp only [maxLen]; omega) (by omega) ?_; intro A2 c2 w2 ho2 hg2 ha2; rw [Nat.zero_add, List.nil_append] at ho2; rw [Nat.zero_add] at ha2 ⊢; have HO2 := Lib.hid ho2; have HG2 := Lib.hid hg2; have HA2 := Lib.hid ha2; clear ho2 hg2 ha2)
      have HNEW : Hid (∀ j, Value.ownBlock (.slice A2 n c2) = some j → w.heap.size ≤ j) := by
        intro j hj
        have hsz := HW.out.size
        rcases HA2.out with h2 | h2
        · rw [h2] at hj; simp [Value.ownBlock] at hj; omega
        · rw [h2] at hj; simp at hj; omega
      have HB2 : Hid (Below w.heap.size w w2) := (below_next HW.out (below_alloc (Below.refl wr.heap.size wr) (.cells #[] 26))).grown HG2.out (by have := HW.out.size; simp; omega) (fun k hk => by have := HW.out.size; simp [Value.ownBlock] at hk; omega)
      have HOF := Lib.hid (of7_calls A2 c2 n l w2 HL.out (by omega) (owns_users HO2.out HL.out) (fun u hu => (HO.out u hu).below HB2.out) (HM.out.later HB2.out))
      have HRO : Hid (∀ W, Below w.heap.size w W → Calls Tryz.prog 14 #[.slice A n c, .int .i64 1] W (Errs5 (ofE l) W)) := fun W hW => rof7_calls A c n l W HL.out (by omega) (HR.out.later hW) (fun u hu => (HO.out u hu).below hW) (fun u hu => by
        obtain ⟨f1, f2, f3, _, f5⟩ := fewU_facts (HFW.out u hu)
        exact ⟨by omega, by omega, by omega, fun g hg => Nat.le_trans (f5 g hg) (by omega)⟩)
      have HZ : Hid (ofE l = 0 → (∀ u ∈ l, chk6 1 u = 0) ∧ l.length ≤ 12) := fun h => ⟨(ofE_zero h).1, (ofE_zero h).2.2.1⟩
      clear HA2 HG2 HSRC HMD HW HFW HI HZ0 HZ1 HZ2 HM
      generalize ofE l = r at *
      with_reducible refine HOF.out.mono ?_
      rintro e w3 hcase
      clear HOF
      rcases hcase with ⟨hne, rfl, hb⟩ | ⟨h0, B, rfl, hown⟩
      · have HB3 := Lib.hid (below_next HB2.out hb)
        have HRO2 := Lib.hid (HRO.out w3 HB3.out)
        have hx1 : (r != 0) = true := by simpa using hne
        have hx2 : (r != r) = false := by simp
        clear hb HRO HZ
        go_wp2_with fail
        with_reducible refine HRO2.out.mono ?_
        rintro e w4 ⟨rfl, hb⟩
        have HB4 := Lib.hid (below_next HB3.out hb)
        clear hb HRO2
        go_wp2
        go_ret
        exact ⟨rfl, HB4.out⟩
      subst h0
      have HB3 := Lib.hid (below_next HB2.out hown.below)
      have HRO2 := Lib.hid (HRO.out w3 HB3.out)
      have HZ2 := Lib.hid (HZ.out rfl)
      obtain ⟨p, hd, q1, q2, q3⟩ := hown
      have HST : Hid (Lo7 w B p (rowU l) (.slice A2 n c2) n 0 w3) := by
        refine Lo7.of_cells HB3.out hd ((Turns.of_below q3 (fun _ => False)).owns HO2.out (fun _ _ f => f)) HL.out (fun k hk => ⟨HNEW.out k hk, ?_, ?_⟩) 0 (by decide)
        · have := (HO2.out.lt k hk).2
          omega
        · intro hp
          have := (HO2.out.lt k hk).2
          have := q2 k hp
          omega
      clear hd q1 q2 q3 HRO HZ HNEW HO2 HB3 HB2
      go_wp2_with fail
      with_reducible refine HRO2.out.mono ?_
      rintro e w4 ⟨rfl, hb⟩
      have HST4 := Lib.hid (HST.out.below hb)
      clear hb HRO2 HST
      go_wp2
      go_loopg [8, 47] n (fun gg _ s47 w9 => ∃ k : Nat, k ≤ n ∧ n - k ≤ gg ∧ s47 = .int .i64 k ∧ Hid (Lo7 w B p (rowU l) (.slice A2 n c2) n 0 w9))
      case atStart => exact ⟨0, Nat.zero_le _, by omega, rfl, HST4.out⟩
      case round =>
        clear HST4 hlt hltz
        obtain ⟨k, hk, hg, rfl, HW⟩ := hrel
        by_cases hlt : k < n
        · have hltz : (k : Int) < (n : Int) := by omega
          obtain ⟨g, rfl⟩ := HW.out.form (by omega)
          obtain ⟨⟨x, hcx⟩, hfx, hst⟩ := HW.out.store (by decide) k hlt ⟨#[122, 122, 122]⟩
          rw [Nat.add_zero] at hcx hfx hst
          have HST5 := Lib.hid hst
          clear hst HW
          go_wp2
          go_roundg (n - (k + 1))
          case measure => omega
          case rel => exact ⟨k + 1, by omega, by omega, by go_num, HST5⟩
        · have hltz : ¬ (k : Int) < (n : Int) := by omega
          have HAL := Lib.hid (all7_calls B p (rowU l) wr HW.out.dir)
          go_wp2_with fail
          with_reducible refine HAL.out.mono ?_
          rintro e w5 ⟨v, rfl, hu, hb⟩
          obtain ⟨A5, c5, rfl⟩ : ∃ A5 c5, v = .slice A5 n c5 := by
            obtain ⟨A5, c5, e, _⟩ := Us7.of_users hu
            exact ⟨A5, c5, by rw [e, rowU_length, ← HL.out]⟩
          have HS5 : Hid (Lo7 w B p (rowU l) (.slice A5 n c5) n 1 w5) := by
            unfold Users7 at hu
            rw [rowU_length, ← HL.out, users7_cells] at hu
            have hu0 := owns_turns (b1 := 0) hu (Nat.zero_le _) (Turns.refl (fun _ => False) w5) (fun _ _ f => f)
            refine Lo7.of_cells (below_next HW.out.bel hb) (HW.out.dir.later hb) hu0 (by rw [List.length_map, rowU_length]; exact HL.out) (fun k hk => ?_) 1 (by decide)
            have h1 := (hu.lt k hk).1
            have h2 := HW.out.dir.lt
            have h3 := HW.out.bel.size
            refine ⟨by omega, by omega, fun hp => ?_⟩
            have := HW.out.dir.mlt k hp
            omega
          clear hu hb HAL HW hk hg hlt hltz
          go_wp2
          go_loopg [10, 59] n (fun gg _ s59 w9 => ∃ k : Nat, k ≤ n ∧ n - k ≤ gg ∧ s59 = .int .i64 k ∧ Hid (Lo7 w B p (rowU l) (.slice A5 n c5) n 1 w9))
          case atStart => exact ⟨0, Nat.zero_le _, by omega, rfl, HS5.out⟩
          case round =>
            clear HS5
            obtain ⟨k, hk, hg, rfl, HW⟩ := hrel
            by_cases hlt : k < n
            · have hltz : (k : Int) < (n : Int) := by omega
              obtain ⟨g, rfl⟩ := HW.out.form (by omega)
              obtain ⟨⟨x, hcx⟩, hfx, hst⟩ := HW.out.store (by decide) k hlt ⟨#[48]⟩
              have HST5 := Lib.hid hst
              clear hst HW
              go_wp2
              go_roundg (n - (k + 1))
              case measure => omega
              case rel => exact ⟨k + 1, by omega, by omega, by go_num, HST5⟩
            · have hltz : ¬ (k : Int) < (n : Int) := by omega
              have HAL := Lib.hid (all7_calls B p (rowU l) wr HW.out.dir)
              have HLN : Hid (∀ W, Below wr.heap.size wr W → Calls Tryz.prog 17 #[.pointer (some ⟨B, 0, none⟩)] W fun e w' => e = .returned (.int .i64 (n : Int)) ∧ w' = W) := fun W hW => by
                have := len7_calls B p (rowU l) W (HW.out.dir.later hW)
                rwa [rowU_length, ← HL.out] at this
              have HBW := Lib.hid HW.out.bel
              have hall := HW.out.dir.all
              have HALL := Lib.hid hall
              clear HW hall
              go_wp2_with fail
              with_reducible refine HAL.out.mono ?_
              rintro e w6 ⟨v, rfl, hu, hb⟩
              have hus := Us7.of_users hu
              obtain ⟨A6, c6, rfl⟩ : ∃ A6 c6, v = .slice A6 n c6 := by
                obtain ⟨A6, c6, e, _⟩ := id hus
                exact ⟨A6, c6, by rw [e, rowU_length, ← HL.out]⟩
              obtain ⟨hln, hrd⟩ := hus.rd
              have hbb := below_next HBW.out hb
              have HSU := Lib.hid (sameusersV_calls A6 A c6 c n ((rowU l).map bare7) l w6 hln HL.out (by omega) hrd (HR.out.later hbb) (fun u hu => by
                obtain ⟨q, hq, rfl⟩ := List.mem_map.1 hu
                exact bare7_ok (HALL.out q hq)) (fun u hu => (HO.out u hu).below hbb) (fun k i1 i2 => by
                have := bare7_same (HZ2.out.1 _ (List.getElem_mem i2))
                simpa [rowU] using this))
              have HB6 := Lib.hid hb
              have HBB := Lib.hid hbb
              clear hu hus hln hrd hb hbb HAL
              go_wp2_with fail
              with_reducible refine HSU.out.mono ?_
              rintro e w7 ⟨rfl, hb⟩
              have HLN2 := Lib.hid (HLN.out w7 (below_next HB6.out hb))
              have HB7 := Lib.hid (below_next HBB.out hb)
              have hnn : ((n : Int) == (n : Int)) = true := by simp
              clear hb HSU HLN
              go_wp2_with fail
              with_reducible refine HLN2.out.mono ?_
              rintro e w8 ⟨rfl, rfl⟩
              go_wp2
              go_ret
              exact ⟨rfl, HB7.out⟩
end Go.Proofs.YtclnkboejbnfnaaGreatDoor
