/-
  What the document's own reader does with rows: the same as the plain model of the Reader, where an error leaves nothing.
  Conditions: at most 2^40 bytes.
-/
import Derived.Test.YtacmjmfdhegojaaDoorRefS
namespace Go.Proofs.YtacmjmfdhegojaaDoor
open Go.RowKit

/-- A reader and a row of texts are told. -/
def RefW (st : St) (ss : List ByteArray) (w : World) (e : Ending) (w' : World) : Prop := ∃ A c, e = .returned (.tuple #[refV st, .slice A ss.length c]) ∧ RdS w' A ss ∧ Turns (fun _ => False) w w'

/-- A reader and texts are told, in a row of their own. -/
def RefW6 (st : St) (ss : List ByteArray) (w : World) (e : Ending) (w' : World) : Prop := ∃ A c, e = .returned (.tuple #[refV st, .slice A ss.length c]) ∧ w'.ownsRow 0 9 1 (.slice A ss.length c) ss.length (textCells ss) ∧ (∀ j, Value.ownBlock (.slice A ss.length c) = some j → w.heap.size ≤ j) ∧ Turns (fun _ => False) w w'
theorem own_ne_blk2 {w : World} {g : Nat} {a b : Value} {v : Value} {n : Nat} {xs : List Value} (hr : Blk2 w g a b) (h : w.ownsRow 0 9 1 v n xs) : v.ownBlock ≠ some g := by
  unfold Blk2 at hr
  rcases h.2 with ⟨rfl, _⟩ | ⟨g', cap, cur, rfl, _, hg, _⟩
  · simp [Value.ownBlock]
  · intro he
    have : g' = g := by simpa [Value.ownBlock] using he
    subst this
    have := hr.symm.trans hg
    simp at this

abbrev rowW (w : World) (g : Nat) (st : St) : World := ((w.setCell ⟨g, 0, none⟩ (.string ⟨st.bs.toArray⟩)).setCell ⟨g, 1, none⟩ (.int .i64 st.e)).alloc (.cells #[.string ⟨st.bs.toArray⟩, .int .i64 st.e] 73)
theorem rowW_size (w : World) (g : Nat) (st : St) : (rowW w g st).heap.size = w.heap.size + 1 := by simp [World.setCell]
theorem rowW_turns (w : World) (g : Nat) (st : St) : Turns (fun i => i = g) w (rowW w g st) :=
  (((Turns.refl (fun i => i = g) w).setCell (p := ⟨g, 0, none⟩) (fun _ => rfl) _).setCell (p := ⟨g, 1, none⟩) (fun _ => rfl) _).alloc _

set_option maxRecDepth 100000 in
set_option maxHeartbeats 4000000 in
theorem getrow6_calls (st : St) (most long : Int) (w : World) (hok : Ok st) (hl : st.bs.length ≤ 1099511627776) :
    Calls Tryd.prog 45 #[refV st, .int .i64 most, .int .i64 long] w (RefW6 (rowS st most long).1 (rowS st most long).2 w) := by
  obtain ⟨i0, hi, hz0, hz1, hz2⟩ := info_parts infoText
  have HK := Lib.hid (fun W si (e : si = ((2 : Nat) : Int)) => get_calls st si 2 W hok hl e (by omega))
  have hz := numS_zero hok 2
  have hx : (numS st 2).2 < 65536 := numS_lt st 2
  have hok2 := hok.num 2
  have hl2 := Nat.le_trans (numS_left st 2) hl
  have HT : Hid (rowS st most long = rowGo long (lengthS st most).2 (lengthS st most).1 []) := rfl
  have HL : Hid (lengthS st most = if max most 0 < ((numS st 2).2 : Int) then (failS (numS st 2).1 3, 0) else ((numS st 2).1, (numS st 2).2)) := rfl
  rw [HT.out, HL.out]
  clear HT HL hok hl
  generalize (numS st 2).2 = x at *
  generalize (numS st 2).1 = s2 at *
  obtain ⟨l, e⟩ := st
  unfold refV at HK
  unfold refV
  dsimp only at *
  generalize ByteArray.mk l.toArray = s at *
  obtain ⟨b0, b1, bt⟩ := boxes w (.string s) (.int .i64 e) (.string ⟨#[]⟩) (.int .i64 0)
  have HB1 := Lib.hid b1
  have HBT := Lib.hid bt
  clear b0 b1 bt
  by_cases h1 : max most 0 < (x : Int)
  · have he0 : s2.e = 0 := by
      by_cases h : s2.e = 0
      · exact h
      · have := hz h; omega
    have HT : Hid (rowGo long 0 (failS s2 3) [] = (⟨[], 3⟩, [])) := by
      show rowGo long 0 (failS s2 3) [] = (⟨[], 3⟩, [])
      rw [failS_zero he0 3 (by omega)]
      rfl
    rw [if_pos h1]
    show Calls _ _ _ _ (RefW6 (rowGo long 0 (failS s2 3) []).1 (rowGo long 0 (failS s2 3) []).2 w)
    rw [HT.out]
    have d1 : (s2.e == 0) = true := by simpa using he0
    clear hz HT he0 hi hz0 hz1 hz2
    go_enter Tryd.func45, Tryd.ntmps45
    go_wp2_with fail
    with_reducible refine (HK.out _ _ (by simp)).mono ?_
    rintro e' w1 ⟨rfl, ht⟩
    have hb1 := HB1.out.still ht
    have hlt : w.heap.size + 1 < w1.heap.size := hb1.lt
    have HT1 := Lib.hid (HBT.out.next ht (fun _ _ f => f))
    have c0' := hb1.c0
    have c1' := hb1.c1
    have f0' := hb1.fr
    have HS := Lib.hid (hb1.set (a' := .string ⟨#[]⟩) (b' := .int .i64 3))
    clear hb1 ht HB1 HBT HK
    unfold refV
    go_wp2
    all_goals
      have r0 := fun o => (HS.out.still ((Turns.refl _ _).alloc o)).c0
      have r1 := fun o => (HS.out.still ((Turns.refl _ _).alloc o)).c1
      exact bodyPost_ret (v := .tuple #[.agg #[.string ⟨#[]⟩, .int .i64 3], .slice none 0 0]) (by simp [results, Tryd.results45, go_sem, r0, r1]) rfl ⟨none, 0, rfl, World.ownsRow_nil _ _ _ _, by simp [Value.ownBlock], (HT1.out.set2 (by omega) _ _).alloc _⟩
  · rw [if_neg h1]
    show Calls _ _ _ _ (RefW6 (rowGo long x s2 []).1 (rowGo long x s2 []).2 w)
    obtain ⟨res, HR⟩ : ∃ res, Hid (rowGo long x s2 [] = res) := ⟨_, rfl⟩
    rw [HR.out]
    clear hz
    have hcase : (s2.e == 0) = true ∨ (s2.e == 0) = false := by cases (s2.e == 0) <;> simp
    go_enter Tryd.func45, Tryd.ntmps45
    go_wp2_with fail
    with_reducible refine (HK.out _ _ (by simp)).mono ?_
    rintro e' w1 ⟨rfl, ht⟩
    have hb1 := HB1.out.still ht
    have hlt : w.heap.size + 1 < w1.heap.size := hb1.lt
    have HT1 := Lib.hid (HBT.out.next ht (fun _ _ f => f))
    have hba := Blk2.new w1 (.string ⟨s2.bs.toArray⟩) (.int .i64 s2.e)
    have hbb := hb1.still ((Turns.refl _ _).alloc (.cells #[.string ⟨s2.bs.toArray⟩, .int .i64 s2.e] 73))
    have HBA := Lib.hid hba
    have HBB := Lib.hid hbb
    have HOK := Lib.hid hok2
    have HT2 := Lib.hid (HT1.out.alloc (.cells #[.string ⟨s2.bs.toArray⟩, .int .i64 s2.e] 73))
    have hne : w1.heap.size ≠ w.heap.size + 1 := by omega
    clear hb1 ht HB1 HBT HK hba hbb hok2 HT1
    unfold refV
    generalize hb8 : w1.heap.size = b8 at *
    generalize hb6 : w.heap.size + 1 = b6 at *
    have hm : (0 < most ∧ ¬ most < (x : Int)) ∨ (¬ 0 < most ∧ ¬ (0 : Int) < (x : Int)) := by omega
    clear h1
    rcases hm with ⟨hm, h1⟩ | ⟨hm, h1⟩
    · rcases hcase with d1 | d1
      all_goals
        go_wp2
        all_goals
          go_loopw [10, 30] (fun l i wr => ∃ (k : Nat) (s1 : St) (ss : List ByteArray) (A : Option Addr) (c : Nat), k ≤ x ∧ i = .int .u64 k ∧ l = .slice A ss.length c ∧ ss.length = k ∧ wr.ownsRow 0 9 1 (.slice A ss.length c) ss.length (textCells ss) ∧ (∀ j, Value.ownBlock (.slice A ss.length c) = some j → w.heap.size ≤ j) ∧ Blk2 wr b8 (.string ⟨s1.bs.toArray⟩) (.int .i64 s1.e) ∧ Blk2 wr b6 (.string ⟨#[]⟩) (.int .i64 0) ∧ Turns (fun _ => False) w wr ∧ Ok s1 ∧ s1.bs.length ≤ 1099511627776 ∧ rowGo long (x - k) s1 ss = res) (fun _ i _ => x - (intOf i).toNat)
          case atStart => exact ⟨0, s2, [], none, 0, Nat.zero_le _, rfl, rfl, rfl, World.ownsRow_nil _ _ _ _, by simp [Value.ownBlock], HBA.out, HBB.out, HT2.out, HOK.out, hl2, HR.out⟩
          case round =>
            obtain ⟨k, s1, ss, A, c, hk, rfl, rfl, hsl, hown, hnew, hk8, hk6, hwt, hok1, hsb, hgo⟩ := hrel
            clear HBA HBB HT2 HOK hl2 HR d1
            by_cases hltk : k < x
            · rw [show x - k = (x - (k + 1)) + 1 by omega] at hgo
              have hn8 := own_ne_blk2 hk8 hown
              have hn6 := own_ne_blk2 hk6 hown
              have HTX := Lib.hid (fun W => gettext_calls s1 long W hok1 hsb)
              have htl := textS_left s1 long
              have hge : w.heap.size ≤ wr.heap.size := hwt.size
              have HOK3 := Lib.hid (hok1.text long)
              unfold rowGo at hgo
              generalize hs2 : (textS s1 long).1 = s3 at *
              generalize (textS s1 long).2 = tx at *
              have hsz : s3.bs.length ≤ 1099511627776 := by omega
              have HOW := Lib.hid hown
              have HNEW := Lib.hid hnew
              have HK8 := Lib.hid hk8
              have HK6 := Lib.hid hk6
              have HN8 := Lib.hid hn8
              have HN6 := Lib.hid hn6
              have HGO := Lib.hid hgo
              have HSL := Lib.hid hsl
              have HWT := Lib.hid hwt
              have c0 := hk8.c0
              have c1 := hk8.c1
              clear hown hnew hk8 hk6 hn8 hn6 hgo hs2 htl hsb hsl hwt hok1
              unfold refV at HTX
              go_wp2_with fail
              with_reducible refine (HTX.out _).mono ?_
              rintro e w2 ⟨rfl, ht2⟩
              have hge2 : wr.heap.size ≤ w2.heap.size := ht2.size
              have hk8 := HK8.out.still ht2
              have hk6 := HK6.out.still ht2
              have hlt8 := hk8.lt
              have hlt6 := hk6.lt
              have HO2 := Lib.hid (ht2.owns HOW.out (fun j hj f => f))
              have HWT2 := Lib.hid (HWT.out.next ht2 (fun _ _ f => f))
              have c0' := hk8.c0
              have c1' := hk8.c1
              have f8 := hk8.fr
              have g0 := hk6.c0
              have g1 := hk6.c1
              have f6 := hk6.fr
              have HK8 := Lib.hid hk8
              have HK6 := Lib.hid hk6
              clear hk8 hk6 c0 c1 ht2 HTX HOW HWT
              unfold refV
              by_cases he : s3.e = 0
              · have hgo := HGO.out
                rw [if_neg (by simpa using he)] at hgo
                have HG2 := Lib.hid hgo
                have d1 : (s3.e != 0) = false := by simpa using he
                clear hgo he HGO
                have hsn : ss.length ≤ 65536 := by have := HSL.out; omega
                have hO3 := (rowW_turns w2 b8 s3).owns HO2.out (fun j hj he => HN8.out (by rw [hj, he]))
                have hK8 : Blk2 (rowW w2 b8 s3) b8 (.string ⟨s3.bs.toArray⟩) (.int .i64 s3.e) := HK8.out.set.still ((Turns.refl _ _).alloc _)
                have hK6 : Blk2 (rowW w2 b8 s3) b6 (.string ⟨#[]⟩) (.int .i64 0) := HK6.out.turns (rowW_turns w2 b8 s3) (by omega)
                have hWT : Turns (fun _ => False) w (rowW w2 b8 s3) := (HWT2.out.set2 (by omega) _ _).alloc _
                have hsrc : Src Tryd.prog 1 40 (.slice (some ⟨w2.heap.size + 1, 0, none⟩) 1 1) 1 (textCells [⟨tx.toArray⟩]) ((rowW w2 b8 s3).alloc (.cells #[.string ⟨tx.toArray⟩] 9)) := by
                  rw [← rowW_size w2 b8 s3]
                  exact Src.ofSlice _ Tryd.underlying40 _ 1 1 _ rfl (cell_one_new _ _ _) (by intro u hu; simp [textCells] at hu; subst hu; rfl)
                have HSRC := Lib.hid hsrc
                have HO3 := Lib.hid hO3
                have HK8 := Lib.hid hK8
                have HK6 := Lib.hid hK6
                have HWT := Lib.hid hWT
                have hsz3 := rowW_size w2 b8 s3
                have HSZ3 := Lib.hid hsz3
                clear hsrc hO3 hK8 hK6 hWT HO2 HWT2 hsz3
                go_wp2_with (at_builtin; refine wpList_append_src _ rfl (.tmp 43) (.tmp 45) 40 40 (by rfl) 9 i0 _ 1 16 Tryd.underlying40 hi hz0 hz1 hz2 rfl (.slice A ss.length c) ss.length (textCells ss) (by rfl) (HO3.out.alloc _) (.slice (some ⟨w2.heap.size + 1, 0, none⟩) 1 1) 1 (textCells [⟨tx.toArray⟩]) (by rfl) HSRC.out (by simp only [maxLen]; omega) (by omega) ?_; (intro A3 c3 w3 ho3 hg3 ha3))
                have R3 : w3.ownsRow 0 9 1 (.slice A3 (ss ++ [ByteArray.mk tx.toArray]).length c3) (ss ++ [ByteArray.mk tx.toArray]).length (textCells (ss ++ [ByteArray.mk tx.toArray])) := by
                  have e1 : (ss ++ [ByteArray.mk tx.toArray]).length = ss.length + 1 := by simp
                  rw [e1]
                  simpa [textCells] using ho3
                have hTG : Turns (fun i => Value.ownBlock (.slice A ss.length c) = some i) (rowW w2 b8 s3) w3 := ((Turns.refl _ _).alloc _).grown hg3 (fun k hk _ => hk)
                have N3 : ∀ j, Value.ownBlock (.slice A3 (ss ++ [ByteArray.mk tx.toArray]).length c3) = some j → w.heap.size ≤ j := by
                  intro j hj
                  have hj' : Value.ownBlock (.slice A3 (ss.length + 1) c3) = some j := by simpa [Value.ownBlock] using hj
                  rcases ha3 with h3 | h3
                  · exact HNEW.out j (h3 ▸ hj')
                  · rw [h3] at hj'
                    injection hj' with hj'
                    have := HSZ3.out
                    simp [World.setCell] at hj'
                    omega
                have HR3 := Lib.hid R3
                have HN3 := Lib.hid N3
                have H8 := Lib.hid (HK8.out.turns hTG HN8.out)
                have H6 := Lib.hid (HK6.out.turns hTG HN6.out)
                have HW3 := Lib.hid (HWT.out.next hTG (fun i hi he => by have := HNEW.out i he; omega))
                clear ho3 hg3 ha3 R3 N3 hTG
                go_wp2
                go_roundw
                case rel => exact ⟨k + 1, s3, ss ++ [⟨tx.toArray⟩], A3, c3, by omega, by go_num, by simp, by simp [HSL.out], HR3.out, HN3.out, H8.out, H6.out, HW3.out, HOK3.out, hsz, HG2.out⟩
                case measure => simp [intOf]; omega
              · have hgo := HGO.out
                rw [if_pos (by simpa using he)] at hgo
                have HG2 := Lib.hid hgo
                have d1 : (s3.e != 0) = true := by simpa using he
                clear hgo he HGO
                go_wp2
                have hfin := ((HK6.out.far (g' := b8) (by omega) (.string ⟨s3.bs.toArray⟩) (.int .i64 s3.e)).set (a' := .string ⟨s3.bs.toArray⟩) (b' := .int .i64 s3.e)).still ((Turns.refl _ _).alloc (.cells #[.string ⟨s3.bs.toArray⟩, .int .i64 s3.e] 73))
                have r0 := hfin.c0
                have r1 := hfin.c1
                refine bodyPost_ret (v := .tuple #[.agg #[.string ⟨s3.bs.toArray⟩, .int .i64 s3.e], .slice none 0 0]) ?_ rfl ?_
                · simp [results, Tryd.results45, go_sem, r0, r1]
                · rw [← HG2.out]; exact ⟨none, 0, rfl, World.ownsRow_nil _ _ _ _, by simp [Value.ownBlock], ((HWT2.out.set2 (by omega) _ _).set2 (by omega) _ _).alloc _⟩
            · obtain rfl : k = x := by omega
              rw [Nat.sub_self] at hgo
              have HGO : Hid ((s1, ss) = res) := hgo
              have HK8 := Lib.hid hk8
              have HK6 := Lib.hid hk6
              have HWT := Lib.hid hwt
              have c0 := hk8.c0
              have c1 := hk8.c1
              have g0 := hk6.c0
              have g1 := hk6.c1
              have f6 := hk6.fr
              have HRD := Lib.hid ((((Turns.refl (fun i => i = b6) wr).setCell (p := ⟨b6, 0, none⟩) (fun _ => rfl) (.string ⟨s1.bs.toArray⟩)).setCell (p := ⟨b6, 1, none⟩) (fun _ => rfl) (.int .i64 s1.e)).owns hown (fun j hj he => own_ne_blk2 hk6 hown (by rw [hj, he])))
              have HNR := Lib.hid hnew
              clear hgo hown hk8 hk6 hwt hnew hok1 hsb
              go_wp2
              have r0 := (HK6.out.set (a' := .string ⟨s1.bs.toArray⟩) (b' := .int .i64 s1.e)).c0
              have r1 := (HK6.out.set (a' := .string ⟨s1.bs.toArray⟩) (b' := .int .i64 s1.e)).c1
              refine bodyPost_ret (v := .tuple #[.agg #[.string ⟨s1.bs.toArray⟩, .int .i64 s1.e], .slice A ss.length c]) ?_ rfl ?_
              · simp [results, Tryd.results45, go_sem, r0, r1]
              · rw [← HGO.out]; exact ⟨A, c, rfl, HRD.out, HNR.out, HWT.out.set2 (by omega) _ _⟩
    · rcases hcase with d1 | d1
      all_goals
        go_wp2
        all_goals
          go_loopw [10, 30] (fun l i wr => ∃ (k : Nat) (s1 : St) (ss : List ByteArray) (A : Option Addr) (c : Nat), k ≤ x ∧ i = .int .u64 k ∧ l = .slice A ss.length c ∧ ss.length = k ∧ wr.ownsRow 0 9 1 (.slice A ss.length c) ss.length (textCells ss) ∧ (∀ j, Value.ownBlock (.slice A ss.length c) = some j → w.heap.size ≤ j) ∧ Blk2 wr b8 (.string ⟨s1.bs.toArray⟩) (.int .i64 s1.e) ∧ Blk2 wr b6 (.string ⟨#[]⟩) (.int .i64 0) ∧ Turns (fun _ => False) w wr ∧ Ok s1 ∧ s1.bs.length ≤ 1099511627776 ∧ rowGo long (x - k) s1 ss = res) (fun _ i _ => x - (intOf i).toNat)
          case atStart => exact ⟨0, s2, [], none, 0, Nat.zero_le _, rfl, rfl, rfl, World.ownsRow_nil _ _ _ _, by simp [Value.ownBlock], HBA.out, HBB.out, HT2.out, HOK.out, hl2, HR.out⟩
          case round =>
            obtain ⟨k, s1, ss, A, c, hk, rfl, rfl, hsl, hown, hnew, hk8, hk6, hwt, hok1, hsb, hgo⟩ := hrel
            clear HBA HBB HT2 HOK hl2 HR d1
            obtain rfl : k = x := by omega
            rw [Nat.sub_self] at hgo
            have HGO : Hid ((s1, ss) = res) := hgo
            have HK8 := Lib.hid hk8
            have HK6 := Lib.hid hk6
            have HWT := Lib.hid hwt
            have c0 := hk8.c0
            have c1 := hk8.c1
            have g0 := hk6.c0
            have g1 := hk6.c1
            have f6 := hk6.fr
            have HRD := Lib.hid ((((Turns.refl (fun i => i = b6) wr).setCell (p := ⟨b6, 0, none⟩) (fun _ => rfl) (.string ⟨s1.bs.toArray⟩)).setCell (p := ⟨b6, 1, none⟩) (fun _ => rfl) (.int .i64 s1.e)).owns hown (fun j hj he => own_ne_blk2 hk6 hown (by rw [hj, he])))
            have HNR := Lib.hid hnew
            clear hgo hown hk8 hk6 hwt hnew hok1 hsb
            go_wp2
            have r0 := (HK6.out.set (a' := .string ⟨s1.bs.toArray⟩) (b' := .int .i64 s1.e)).c0
            have r1 := (HK6.out.set (a' := .string ⟨s1.bs.toArray⟩) (b' := .int .i64 s1.e)).c1
            refine bodyPost_ret (v := .tuple #[.agg #[.string ⟨s1.bs.toArray⟩, .int .i64 s1.e], .slice A ss.length c]) ?_ rfl ?_
            · simp [results, Tryd.results45, go_sem, r0, r1]
            · rw [← HGO.out]; exact ⟨A, c, rfl, HRD.out, HNR.out, HWT.out.set2 (by omega) _ _⟩
theorem getrow_calls (st : St) (most long : Int) (w : World) (hok : Ok st) (hl : st.bs.length ≤ 1099511627776) :
    Calls Tryd.prog 45 #[refV st, .int .i64 most, .int .i64 long] w (RefW (rowS st most long).1 (rowS st most long).2 w) :=
  (getrow6_calls st most long w hok hl).mono fun _ _ ⟨A, c, he, ho, _, ht⟩ => ⟨A, c, he, rds_of_own ho, ht⟩
end Go.Proofs.YtacmjmfdhegojaaDoor
