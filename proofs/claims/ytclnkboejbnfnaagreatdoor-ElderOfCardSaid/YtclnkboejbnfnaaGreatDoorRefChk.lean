/-
  The document's Check of a user: the same error as the program's.
  Conditions: texts of at most 1000 bytes.
-/
import Derived.Test.YtclnkboejbnfnaaGreatDoorUserE
import Derived.Test.YtclnkboejbnfnaaGreatDoorRefMail5
namespace Go.Proofs.YtclnkboejbnfnaaGreatDoor
open Go.RowKit

theorem less_cmp : ∀ (a b : List UInt8), (Op.bytesLess b a || b == a) = !decide (Lib.compareBytes a b < 0)
  | [], [] => by decide
  | [], b :: bl => by simp [Op.bytesLess, Lib.compareBytes]
  | a :: al, [] => by simp [Op.bytesLess, Lib.compareBytes]
  | a :: al, b :: bl => by
    have ih := less_cmp al bl
    unfold Op.bytesLess Lib.compareBytes
    by_cases h1 : a < b
    · have h2 : ¬ b < a := fun h => absurd (UInt8.lt_trans h1 h) (UInt8.lt_irrefl _)
      have h3 : ¬ b = a := fun h => by subst h; exact UInt8.lt_irrefl _ h1
      simp [h1, h2, h3]
    · by_cases h2 : b < a
      · simp [h1, h2]
      · have h3 : a = b := UInt8.le_antisymm (UInt8.not_lt.1 h2) (UInt8.not_lt.1 h1)
        subst h3
        simp [h1] at ih ⊢
        exact ih
theorem leq6_eq (x y : ByteArray) : (Op.bytesLess x.toList y.toList || x.toList == y.toList) = !ahead6 y x := by
  have h := less_cmp y.data.toList x.data.toList
  unfold ahead6
  rw [← h, ← ByteArray.toList_eq, ← ByteArray.toList_eq]
theorem toList_eq6 {s t : ByteArray} (h : s.toList = t.toList) : s = t := by
  rw [ByteArray.toList_eq, ByteArray.toList_eq] at h
  exact ByteArray.ext (Array.toList_inj.1 h)

set_option maxRecDepth 100000 in
set_option maxHeartbeats 4000000 in
theorem rcheck6_calls (s : Int) (u : Us) (w : World) (h : u.Ok w) (h1 : u.nm.size ≤ 1000) (h2 : u.hs.size ≤ 1000) (h3 : u.ml.size ≤ 1000) (h4 : ∀ g ∈ u.gs, g.size ≤ 1000) :
    Calls Tryz.prog 49 #[.int .i64 s, u.v] w (Errs5 (chk6 s u) w) := by
  have hnot : ∀ (x : Bool) (w : World), (Op.unary .not (.bool x)).run Tryz.prog w = .ok (.bool (!x)) w := fun _ _ => rfl
  have HB1 := Lib.hid (below_alloc (Below.refl w.heap.size w) (.cells u.cells 26))
  have HA1 : Hid (UsAt (w.alloc (.cells u.cells 26)) w.heap.size u) := UsAt.new w u _
  have HRD := Lib.hid (h.rd.below HB1.out)
  have HN : Hid (∀ W, Calls Tryz.prog 122 #[.string u.nm] W (Still5 (name5 u.nm.data.toList) W)) := fun W => rname_calls u.nm W h1
  have HH : Hid (∀ W, Calls Tryz.prog 123 #[.string u.hs] W (Still5 (hash5 u.hs.data.toList) W)) := fun W => rhash_calls u.hs W h2
  have HM : Hid (∀ W, Calls Tryz.prog 124 #[.string u.ml] W (RMails5 (mail5 u.ml.data.toList) (mailT u.ml.data.toList) W)) := fun W => rmail_calls u.ml W h3
  have HGS := Lib.hid h4
  have hlen := h.len
  have hcap := h.cap
  obtain ⟨r, hr⟩ : ∃ r, r = chk6 s u := ⟨_, rfl⟩
  rw [← hr]
  unfold chk6 at hr
  have HR := Lib.hid hr
  have hbare : bare6 u = (decide (u.ml = ⟨#[]⟩) && decide (u.dis = false) && decide (u.gs = [])) := by
    show (decide (u.nm = u.nm) && decide (u.hs = u.hs) && decide (u.ml = ⟨#[]⟩) && decide (u.dis = false) && decide (u.gs = [])) = _
    rw [decide_eq_true (rfl : u.nm = u.nm), decide_eq_true (rfl : u.hs = u.hs), Bool.true_and, Bool.true_and]
  have HBA := Lib.hid hbare
  clear h h1 h2 h3 h4 hr hbare
  unfold Us.v
  unfold Us.cells at *
  obtain ⟨nm, hs, ml, dis, A, gs, c⟩ := u
  dsimp only at *
  generalize bare6 ⟨nm, hs, ml, dis, A, gs, c⟩ = bb6 at *
  generalize name5 nm.data.toList = bn at *
  generalize hash5 hs.data.toList = bh at *
  have c0 : _ = some (.string nm : Value) := HA1.out.c0
  have c1 : _ = some (.string hs : Value) := HA1.out.c1
  have c2 : _ = some (.string ml : Value) := HA1.out.c2
  have c3 : _ = some (.bool dis : Value) := HA1.out.c3
  have c4 : _ = some (.slice A gs.length c : Value) := HA1.out.c4
  by_cases hk : know6 s = true
  · have hs12 : s = 1 ∨ s = 2 := by simpa [know6] using hk
    have k1 : ¬ s < 1 := by omega
    have k2 : ¬ s > 2 := by omega
    have k2' : ¬ 2 < s := by omega
    rw [hk] at HR
    cases bn with
    | false =>
      have hr : r = 10 := by
        rw [HR.out]
        rcases hs12 with rfl | rfl <;> rfl
      subst hr
      go_enter Tryz.func49, Tryz.ntmps49
      go_wp2_with fail
      with_reducible refine (HN.out _).mono ?_
      rintro e w2 ⟨rfl, rfl⟩
      go_wp2
      go_ret
      exact ⟨rfl, HB1.out⟩
    | true =>
      cases bh with
      | false =>
        have hr : r = 4 := by
          rw [HR.out]
          rcases hs12 with rfl | rfl <;> rfl
        subst hr
        go_enter Tryz.func49, Tryz.ntmps49
        go_wp2_with fail
        with_reducible refine (HN.out _).mono ?_
        rintro e w2 ⟨rfl, rfl⟩
        go_wp2_with fail
        with_reducible refine (HH.out _).mono ?_
        rintro e w2 ⟨rfl, rfl⟩
        go_wp2
        go_ret
        exact ⟨rfl, HB1.out⟩
      | true =>
        rcases hs12 with rfl | rfl
        · have HR1 : Hid (r = err5 bb6 12) := by
            have := HR.out
            rw [if_pos rfl] at this
            generalize bb6 = b at *
            cases b <;> exact this
          clear HR
          go_enter Tryz.func49, Tryz.ntmps49
          go_wp2_with fail
          with_reducible refine (HN.out _).mono ?_
          rintro e w2 ⟨rfl, rfl⟩
          go_wp2_with fail
          with_reducible refine (HH.out _).mono ?_
          rintro e w2 ⟨rfl, rfl⟩
          by_cases hm0 : ml = ⟨#[]⟩
          · subst hm0
            cases dis with
            | true =>
              have hr : r = 12 := by rw [HR1.out, HBA.out]; rfl
              subst hr
              clear HR1 HBA
              go_wp2
              go_ret
              exact ⟨rfl, HB1.out⟩
            | false =>
              by_cases hg0 : gs = []
              · have hr : r = 0 := by rw [HR1.out, HBA.out, hg0]; rfl
                subst hg0
                subst hr
                clear HR1 HBA
                go_wp2
                go_ret
                exact ⟨rfl, HB1.out⟩
              · have hr : r = 12 := by rw [HR1.out, HBA.out, decide_eq_false hg0]; rfl
                have hz : (gs.length : Int) > 0 := by have := List.length_pos_iff.2 hg0; omega
                have hz2 : 0 < gs.length := List.length_pos_iff.2 hg0
                subst hr
                clear HR1 HBA
                go_wp2
                go_ret
                exact ⟨rfl, HB1.out⟩
          · have hr : r = 12 := by rw [HR1.out, HBA.out, decide_eq_false hm0]; rfl
            have hne := toList_ne6 hm0
            have hne1 : ¬ ml.toList = [] := fun e => hne (by rw [e, ByteArray.toList_eq])
            have hne2 : ml.toList.isEmpty = false := by simpa using hne1
            subst hr
            clear HR1 HBA hm0
            go_wp2
            go_ret
            exact ⟨rfl, HB1.out⟩
        · have HR1 : Hid (r = first6 [err5 (fold6 ml) 11, err5 (decide (gs.length ≤ 6)) 7, err5 (names6 gs) 10, err5 (rise6 gs) 9]) := by
            have := HR.out
            rw [if_neg (by decide)] at this
            exact this
          clear HR HBA
          by_cases hm0 : ml = ⟨#[]⟩
          · subst hm0
            have HRT : Hid (r = first6 [err5 (decide (gs.length ≤ 6)) 7, err5 (names6 gs) 10, err5 (rise6 gs) 9]) := HR1
            clear HR1 HM
            go_enter Tryz.func49, Tryz.ntmps49
            go_wp2_with fail
            generalize w.alloc (.cells #[.string nm, .string hs, .string ⟨#[]⟩, .bool dis, .slice A gs.length c] 26) = W0 at *
            with_reducible refine (HN.out _).mono ?_
            rintro e w2 ⟨rfl, rfl⟩
            go_wp2_with fail
            with_reducible refine (HH.out _).mono ?_
            rintro e w2 ⟨rfl, rfl⟩
            have HAW := HA1
            have HBW := HB1
            have HRW := HRD
            clear HA1 HB1 HRD HN HH c0 c1 c3 c4
            have HR6 : Hid (r = first6 [err5 (decide (gs.length ≤ 6)) 7, err5 (names6 gs) 10, err5 (rise6 gs) 9]) := HRT
            clear HRT
            have c4 : _ = some (.slice A gs.length c : Value) := HAW.out.c4
            by_cases h6 : gs.length ≤ 6
            · have z6 : ¬ (gs.length : Int) > 6 := by omega
              have z6' : ¬ 6 < gs.length := by omega
              have HR7 : Hid (r = first6 [err5 (names6 gs) 10, err5 (rise6 gs) 9]) := by
                have := HR6.out
                rw [decide_eq_true h6] at this
                exact this
              clear HR6
              go_wp2
              go_loopg [8, 64] gs.length (fun gg _ s64 wr => ∃ k : Nat, k ≤ gs.length ∧ gs.length - k ≤ gg ∧ s64 = .int .i64 k ∧ wr = w2 ∧ Hid (∀ j (h : j < gs.length), j < k → name5 gs[j].data.toList = true))
              case atStart => exact ⟨0, Nat.zero_le _, by omega, rfl, rfl, fun j _ hj => absurd hj (Nat.not_lt_zero _)⟩
              case round =>
                obtain ⟨k, hk, hg, rfl, rfl, HT⟩ := hrel
                by_cases hlt : k < gs.length
                · have hltz : (k : Int) < (gs.length : Int) := by omega
                  obtain ⟨bb, off, rfl, hcell⟩ := HRW.out.at6 k hlt
                  have HN1 := Lib.hid (rname_calls gs[k] wr (HGS.out _ (List.getElem_mem hlt)))
                  have HX : Hid (name5 gs[k].data.toList = true → ∀ j (h : j < gs.length), j < k + 1 → name5 gs[j].data.toList = true) := fun hq j h hj => by
                    by_cases e : j = k
                    · subst e; exact hq
                    · exact HT.out j h (by omega)
                  have HF : Hid (name5 gs[k].data.toList = false → r = 10) := fun hf => by
                    have : names6 gs = false := List.all_eq_false.2 ⟨gs[k], List.getElem_mem hlt, by rw [hf]; simp⟩
                    rw [HR7.out, this]; rfl
                  clear HT
                  generalize gs[k] = x at *
                  generalize name5 x.data.toList = b at *
                  cases b with
                  | true =>
                    have HY := Lib.hid (HX.out rfl)
                    clear HX HF
                    go_wp2_with (go_at_call 122; (with_reducible refine HN1.out.mono ?_); rintro e w3 ⟨rfl, rfl⟩)
                    go_roundg (gs.length - (k + 1))
                    case measure => omega
                    case rel => exact ⟨k + 1, by omega, by omega, by go_num, rfl, HY⟩
                  | false =>
                    have hr : r = 10 := HF.out rfl
                    subst hr
                    clear HX HF HR7
                    go_wp2_with (go_at_call 122; (with_reducible refine HN1.out.mono ?_); rintro e w3 ⟨rfl, rfl⟩)
                    go_ret
                    exact ⟨rfl, HBW.out⟩
                · have hltz : ¬ (k : Int) < (gs.length : Int) := by omega
                  obtain rfl : k = gs.length := by omega
                  have HR8 : Hid (r = err5 (rise6 gs) 9) := by
                    have : names6 gs = true := by
                      unfold names6
                      rw [List.all_eq_true]
                      intro x hx
                      obtain ⟨j, hj, rfl⟩ := List.getElem_of_mem hx
                      exact HT.out j hj hj
                    have h := HR7.out
                    rw [this] at h
                    generalize rise6 gs = b at *
                    cases b <;> exact h
                  clear HT HR7
                  go_wp2
                  go_loopg [9, 10, 75] gs.length (fun gg _ _ s75 w9 => ∃ k : Nat, k ≤ gs.length ∧ gs.length - k ≤ gg ∧ s75 = .int .i64 k ∧ w9 = wr ∧ Hid (∀ j (h : j + 1 < gs.length), j + 1 < k → ahead6 gs[j] gs[j + 1] = true))
                  case atStart => exact ⟨0, Nat.zero_le _, by omega, rfl, rfl, fun j _ hj => absurd hj (by omega)⟩
                  case round =>
                    obtain ⟨k, hk, hg, rfl, hw9, HT⟩ := hrel
                    subst hw9
                    by_cases hlt : k < gs.length
                    · have hltz : (k : Int) < (gs.length : Int) := by omega
                      obtain ⟨bb, off, hA1, hcell⟩ := HRW.out.at6 k hlt
                      by_cases hk0 : k = 0
                      · have hz0 : ¬ (k : Int) > 0 := by omega
                        have hz0' : ¬ 0 < (k : Int) := by omega
                        have HY : Hid (∀ j (h : j + 1 < gs.length), j + 1 < k + 1 → ahead6 gs[j] gs[j + 1] = true) := fun j h hj => absurd hj (by omega)
                        subst hA1
                        generalize gs[k] = x at *
                        clear HT hk0
                        go_wp2
                        go_roundg (gs.length - (k + 1))
                        case measure => omega
                        case rel => exact ⟨k + 1, by omega, by omega, by go_num, rfl, HY⟩
                      · have hkl' : k - 1 < gs.length := by omega
                        obtain ⟨bb', off', hA2, hcell'⟩ := HRW.out.at6 (k - 1) hkl'
                        obtain ⟨rfl, rfl⟩ : bb' = bb ∧ off' = off := by
                          rw [hA1] at hA2
                          simp at hA2
                          exact ⟨hA2.1.symm, hA2.2.symm⟩
                        subst hA1
                        have hz0 : (k : Int) > 0 := by omega
                        have zk : (k : Int) - 1 = ((k - 1 : Nat) : Int) := by omega
                        have hwr : IntKind.i64.wrap ((k - 1 : Nat) : Int) = ((k - 1 : Nat) : Int) := IntWalk.i64_in _ (by omega)
                        have z1 : ((k - 1 : Nat) : Int) < (gs.length : Int) := by omega
                        have hle := leq6_eq gs[k] gs[k - 1]
                        have HX : Hid (ahead6 gs[k - 1] gs[k] = true → ∀ j (h : j + 1 < gs.length), j + 1 < k + 1 → ahead6 gs[j] gs[j + 1] = true) := fun hq j h hj => by
                          by_cases e : j = k - 1
                          · subst e
                            have : gs[k - 1 + 1] = gs[k] := by congr 1; omega
                            rw [this]; exact hq
                          · exact HT.out j h (by omega)
                        have HF : Hid (ahead6 gs[k - 1] gs[k] = false → r = 9) := fun hf => by
                          have : rise6 gs = false := rise6_bad gs (k - 1) (by omega) (by
                            have : gs[k - 1 + 1] = gs[k] := by congr 1; omega
                            rw [this]; exact hf)
                          rw [HR8.out, this]; rfl
                        clear HT
                        generalize ahead6 gs[k - 1] gs[k] = b at *
                        generalize gs[k] = x at *
                        generalize gs[k - 1] = y at *
                        cases b with
                        | true =>
                          have HY := Lib.hid (HX.out rfl)
                          have hle2 : Op.bytesLess x.toList y.toList = false ∧ (x.toList == y.toList) = false := by simpa using hle
                          obtain ⟨hbl, hbe⟩ := hle2
                          have hbn : ¬ x.toList = y.toList := by simpa using hbe
                          clear HX HF hle
                          go_wp2
                          go_roundg (gs.length - (k + 1))
                          case measure => omega
                          case rel => exact ⟨k + 1, by omega, by omega, by go_num, rfl, HY⟩
                        | false =>
                          have hr : r = 9 := HF.out rfl
                          subst hr
                          clear HX HF HR8
                          have hle2 : Op.bytesLess x.toList y.toList = true ∨ x.toList = y.toList := by simpa using hle
                          clear hle
                          rcases hle2 with hbl | hbe
                          · go_wp2
                            go_ret
                            exact ⟨rfl, HBW.out⟩
                          · obtain rfl := toList_eq6 hbe
                            clear hbe
                            go_wp2
                            go_ret
                            exact ⟨rfl, HBW.out⟩
                    · have hltz : ¬ (k : Int) < (gs.length : Int) := by omega
                      have hr : r = 0 := by
                        have : rise6 gs = true := rise6_all gs (fun j h => HT.out j h (by omega))
                        rw [HR8.out, this]; rfl
                      subst hr
                      clear HT HR8
                      go_wp2
                      go_ret
                      exact ⟨rfl, HBW.out⟩
            · have z6 : (gs.length : Int) > 6 := by omega
              have z6' : 6 < gs.length := by omega
              have hr : r = 7 := by
                rw [HR6.out, decide_eq_false h6]; rfl
              subst hr
              clear HR6
              go_wp2
              go_ret
              exact ⟨rfl, HBW.out⟩
          · have hne := toList_ne6 hm0
            have hne1 : ¬ ml.toList = [] := fun e => hne (by rw [e, ByteArray.toList_eq])
            have hne2 : ml.toList.isEmpty = false := by simpa using hne1
            have hf6 : fold6 ml = (mail5 ml.data.toList && decide (mailT ml.data.toList = ml)) := by
              unfold fold6
              have : ¬ ml.size = 0 := fun e => hm0 (by
                obtain ⟨d⟩ := ml
                obtain rfl : d = #[] := Array.eq_empty_of_size_eq_zero e
                rfl)
              rw [decide_eq_false this, Bool.false_or]
            rw [hf6] at HR1
            clear hf6 hm0
            generalize mail5 ml.data.toList = bm at *
            generalize mailT ml.data.toList = t at *
            go_enter Tryz.func49, Tryz.ntmps49
            go_wp2_with fail
            generalize w.alloc (.cells #[.string nm, .string hs, .string ml, .bool dis, .slice A gs.length c] 26) = W1 at *
            with_reducible refine (HN.out _).mono ?_
            rintro e w2 ⟨rfl, rfl⟩
            go_wp2_with fail
            with_reducible refine (HH.out _).mono ?_
            rintro e w2 ⟨rfl, rfl⟩
            go_wp2_with fail
            with_reducible refine (HM.out _).mono ?_
            rintro e w2 ⟨rfl, q, rfl⟩
            have HAW := Lib.hid (HA1.out.below (below_drewN (Below.refl w2.heap.size w2) q))
            have HBW := Lib.hid (below_drewN HB1.out q)
            have HRW := Lib.hid (HRD.out.below (below_drewN (Below.refl w2.heap.size w2) q))
            clear HA1 HB1 HRD HN HH HM c0 c1 c2 c3 c4
            generalize w2.drewN q = W0 at *
            have c2 : _ = some (.string ml : Value) := HAW.out.c2
            cases bm with
            | false =>
              have hr : r = 11 := HR1.out
              subst hr
              clear HR1
              go_wp2
              go_ret
              exact ⟨rfl, HBW.out⟩
            | true =>
              by_cases htm : t = ml
              · have HRT : Hid (r = first6 [err5 (decide (gs.length ≤ 6)) 7, err5 (names6 gs) 10, err5 (rise6 gs) 9]) := by
                  have := HR1.out
                  rw [decide_eq_true htm] at this
                  exact this
                subst htm
                clear HR1
                have HR6 : Hid (r = first6 [err5 (decide (gs.length ≤ 6)) 7, err5 (names6 gs) 10, err5 (rise6 gs) 9]) := HRT
                clear HRT
                have c4 : _ = some (.slice A gs.length c : Value) := HAW.out.c4
                by_cases h6 : gs.length ≤ 6
                · have z6 : ¬ (gs.length : Int) > 6 := by omega
                  have z6' : ¬ 6 < gs.length := by omega
                  have HR7 : Hid (r = first6 [err5 (names6 gs) 10, err5 (rise6 gs) 9]) := by
                    have := HR6.out
                    rw [decide_eq_true h6] at this
                    exact this
                  clear HR6
                  go_wp2
                  go_loopg [8, 64] gs.length (fun gg _ s64 wr => ∃ k : Nat, k ≤ gs.length ∧ gs.length - k ≤ gg ∧ s64 = .int .i64 k ∧ wr = W0 ∧ Hid (∀ j (h : j < gs.length), j < k → name5 gs[j].data.toList = true))
                  case atStart => exact ⟨0, Nat.zero_le _, by omega, rfl, rfl, fun j _ hj => absurd hj (Nat.not_lt_zero _)⟩
                  case round =>
                    obtain ⟨k, hk, hg, rfl, rfl, HT⟩ := hrel
                    by_cases hlt : k < gs.length
                    · have hltz : (k : Int) < (gs.length : Int) := by omega
                      obtain ⟨bb, off, rfl, hcell⟩ := HRW.out.at6 k hlt
                      have HN1 := Lib.hid (rname_calls gs[k] wr (HGS.out _ (List.getElem_mem hlt)))
                      have HX : Hid (name5 gs[k].data.toList = true → ∀ j (h : j < gs.length), j < k + 1 → name5 gs[j].data.toList = true) := fun hq j h hj => by
                        by_cases e : j = k
                        · subst e; exact hq
                        · exact HT.out j h (by omega)
                      have HF : Hid (name5 gs[k].data.toList = false → r = 10) := fun hf => by
                        have : names6 gs = false := List.all_eq_false.2 ⟨gs[k], List.getElem_mem hlt, by rw [hf]; simp⟩
                        rw [HR7.out, this]; rfl
                      clear HT
                      generalize gs[k] = x at *
                      generalize name5 x.data.toList = b at *
                      cases b with
                      | true =>
                        have HY := Lib.hid (HX.out rfl)
                        clear HX HF
                        go_wp2_with (go_at_call 122; (with_reducible refine HN1.out.mono ?_); rintro e w3 ⟨rfl, rfl⟩)
                        go_roundg (gs.length - (k + 1))
                        case measure => omega
                        case rel => exact ⟨k + 1, by omega, by omega, by go_num, rfl, HY⟩
                      | false =>
                        have hr : r = 10 := HF.out rfl
                        subst hr
                        clear HX HF HR7
                        go_wp2_with (go_at_call 122; (with_reducible refine HN1.out.mono ?_); rintro e w3 ⟨rfl, rfl⟩)
                        go_ret
                        exact ⟨rfl, HBW.out⟩
                    · have hltz : ¬ (k : Int) < (gs.length : Int) := by omega
                      obtain rfl : k = gs.length := by omega
                      have HR8 : Hid (r = err5 (rise6 gs) 9) := by
                        have : names6 gs = true := by
                          unfold names6
                          rw [List.all_eq_true]
                          intro x hx
                          obtain ⟨j, hj, rfl⟩ := List.getElem_of_mem hx
                          exact HT.out j hj hj
                        have h := HR7.out
                        rw [this] at h
                        generalize rise6 gs = b at *
                        cases b <;> exact h
                      clear HT HR7
                      go_wp2
                      go_loopg [9, 10, 75] gs.length (fun gg _ _ s75 w9 => ∃ k : Nat, k ≤ gs.length ∧ gs.length - k ≤ gg ∧ s75 = .int .i64 k ∧ w9 = wr ∧ Hid (∀ j (h : j + 1 < gs.length), j + 1 < k → ahead6 gs[j] gs[j + 1] = true))
                      case atStart => exact ⟨0, Nat.zero_le _, by omega, rfl, rfl, fun j _ hj => absurd hj (by omega)⟩
                      case round =>
                        obtain ⟨k, hk, hg, rfl, hw9, HT⟩ := hrel
                        subst hw9
                        by_cases hlt : k < gs.length
                        · have hltz : (k : Int) < (gs.length : Int) := by omega
                          obtain ⟨bb, off, hA1, hcell⟩ := HRW.out.at6 k hlt
                          by_cases hk0 : k = 0
                          · have hz0 : ¬ (k : Int) > 0 := by omega
                            have hz0' : ¬ 0 < (k : Int) := by omega
                            have HY : Hid (∀ j (h : j + 1 < gs.length), j + 1 < k + 1 → ahead6 gs[j] gs[j + 1] = true) := fun j h hj => absurd hj (by omega)
                            subst hA1
                            generalize gs[k] = x at *
                            clear HT hk0
                            go_wp2
                            go_roundg (gs.length - (k + 1))
                            case measure => omega
                            case rel => exact ⟨k + 1, by omega, by omega, by go_num, rfl, HY⟩
                          · have hkl' : k - 1 < gs.length := by omega
                            obtain ⟨bb', off', hA2, hcell'⟩ := HRW.out.at6 (k - 1) hkl'
                            obtain ⟨rfl, rfl⟩ : bb' = bb ∧ off' = off := by
                              rw [hA1] at hA2
                              simp at hA2
                              exact ⟨hA2.1.symm, hA2.2.symm⟩
                            subst hA1
                            have hz0 : (k : Int) > 0 := by omega
                            have zk : (k : Int) - 1 = ((k - 1 : Nat) : Int) := by omega
                            have hwr : IntKind.i64.wrap ((k - 1 : Nat) : Int) = ((k - 1 : Nat) : Int) := IntWalk.i64_in _ (by omega)
                            have z1 : ((k - 1 : Nat) : Int) < (gs.length : Int) := by omega
                            have hle := leq6_eq gs[k] gs[k - 1]
                            have HX : Hid (ahead6 gs[k - 1] gs[k] = true → ∀ j (h : j + 1 < gs.length), j + 1 < k + 1 → ahead6 gs[j] gs[j + 1] = true) := fun hq j h hj => by
                              by_cases e : j = k - 1
                              · subst e
                                have : gs[k - 1 + 1] = gs[k] := by congr 1; omega
                                rw [this]; exact hq
                              · exact HT.out j h (by omega)
                            have HF : Hid (ahead6 gs[k - 1] gs[k] = false → r = 9) := fun hf => by
                              have : rise6 gs = false := rise6_bad gs (k - 1) (by omega) (by
                                have : gs[k - 1 + 1] = gs[k] := by congr 1; omega
                                rw [this]; exact hf)
                              rw [HR8.out, this]; rfl
                            clear HT
                            generalize ahead6 gs[k - 1] gs[k] = b at *
                            generalize gs[k] = x at *
                            generalize gs[k - 1] = y at *
                            cases b with
                            | true =>
                              have HY := Lib.hid (HX.out rfl)
                              have hle2 : Op.bytesLess x.toList y.toList = false ∧ (x.toList == y.toList) = false := by simpa using hle
                              obtain ⟨hbl, hbe⟩ := hle2
                              have hbn : ¬ x.toList = y.toList := by simpa using hbe
                              clear HX HF hle
                              go_wp2
                              go_roundg (gs.length - (k + 1))
                              case measure => omega
                              case rel => exact ⟨k + 1, by omega, by omega, by go_num, rfl, HY⟩
                            | false =>
                              have hr : r = 9 := HF.out rfl
                              subst hr
                              clear HX HF HR8
                              have hle2 : Op.bytesLess x.toList y.toList = true ∨ x.toList = y.toList := by simpa using hle
                              clear hle
                              rcases hle2 with hbl | hbe
                              · go_wp2
                                go_ret
                                exact ⟨rfl, HBW.out⟩
                              · obtain rfl := toList_eq6 hbe
                                clear hbe
                                go_wp2
                                go_ret
                                exact ⟨rfl, HBW.out⟩
                        · have hltz : ¬ (k : Int) < (gs.length : Int) := by omega
                          have hr : r = 0 := by
                            have : rise6 gs = true := rise6_all gs (fun j h => HT.out j h (by omega))
                            rw [HR8.out, this]; rfl
                          subst hr
                          clear HT HR8
                          go_wp2
                          go_ret
                          exact ⟨rfl, HBW.out⟩
                · have z6 : (gs.length : Int) > 6 := by omega
                  have z6' : 6 < gs.length := by omega
                  have hr : r = 7 := by
                    rw [HR6.out, decide_eq_false h6]; rfl
                  subst hr
                  clear HR6
                  go_wp2
                  go_ret
                  exact ⟨rfl, HBW.out⟩
              · have hr : r = 11 := by rw [HR1.out, decide_eq_false htm]; rfl
                have htn := toList_ne6 htm
                have htn2 : (t.toList == ml.toList) = false := by simpa using htn
                have htn3 : (t.toList != ml.toList) = true := by simpa using htn
                subst hr
                clear HR1 htm
                go_wp2
                go_ret
                exact ⟨rfl, HBW.out⟩
  · have hkf : know6 s = false := by simpa using hk
    have hr : r = 6 := by
      rw [HR.out, hkf]
      have h1 : ¬ s = 1 := fun e => by subst e; exact hk rfl
      rw [if_neg h1]; rfl
    have hs12 : ¬ s = 1 ∧ ¬ s = 2 := by simpa [know6] using hkf
    subst hr
    clear HR hk hkf
    by_cases hl : s < 1
    · go_enter Tryz.func49, Tryz.ntmps49
      go_wp2
      go_ret
      exact ⟨rfl, HB1.out⟩
    · have hg : s > 2 := by omega
      have hg2 : 2 < s := by omega
      go_enter Tryz.func49, Tryz.ntmps49
      go_wp2
      go_ret
      exact ⟨rfl, HB1.out⟩
end Go.Proofs.YtclnkboejbnfnaaGreatDoor
