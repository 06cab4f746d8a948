/-
  The document's Text of a user: its bytes.
  Conditions: a little user.
-/
import Derived.Test.YtghmcbgejeanfaaDoorUserE
import Derived.Test.YtghmcbgejeanfaaDoorRef
import Derived.Test.YtghmcbgejeanfaaDoorOwn
namespace Go.Proofs.YtghmcbgejeanfaaDoor
open Go.RowKit

/-- What each operation makes. -/
def YTxA (B : Nat) (u : Us) (t1 t2 t3 : ByteArray) : Nat → Value → World → Prop
  | 0, v, _ => v = .pointer (some ⟨B, 0, none⟩)
  | 1, v, _ => v = .string u.nm
  | 2, v, _ => v = .string t1
  | 3, v, _ => v = .pointer (some ⟨B, 1, none⟩)
  | 4, v, _ => v = .string u.hs
  | 5, v, _ => v = .string t2
  | 6, v, _ => v = .string t3
  | _, v, _ => v = .string t3
theorem YTxA_keep {B : Nat} {u : Us} {t1 t2 t3 : ByteArray} {W W' : World} (j : Nat) (z : Value) (h : YTxA B u t1 t2 t3 j z W) : YTxA B u t1 t2 t3 j z W' := by
  match j, h with
  | 0, h => exact h
  | 1, h => exact h
  | 2, h => exact h
  | 3, h => exact h
  | 4, h => exact h
  | 5, h => exact h
  | 6, h => exact h
  | _ + 7, h => exact h
/-- What each operation makes. -/
def YTxB (B : Nat) (u : Us) (t3 t4 t5 t6 t7 t8 t9 : ByteArray) : Nat → Value → World → Prop
  | 0, v, _ => v = .string t3
  | 1, v, _ => v = .pointer (some ⟨B, 2, none⟩)
  | 2, v, _ => v = .string u.ml
  | 3, v, _ => v = .string t4
  | 4, v, _ => v = .string t5
  | 5, v, _ => v = .pointer (some ⟨B, 3, none⟩)
  | 6, v, _ => v = .bool u.dis
  | 7, v, _ => v = .string t6
  | 8, v, _ => v = .string t7
  | 9, v, _ => v = .pointer (some ⟨B, 4, none⟩)
  | 10, v, _ => v = .slice u.ga u.gs.length u.gc
  | 11, v, _ => v = .string t8
  | 12, v, _ => v = .string t9
  | _, v, _ => v = .string t9
theorem YTxB_keep {B : Nat} {u : Us} {t3 t4 t5 t6 t7 t8 t9 : ByteArray} {W W' : World} (j : Nat) (z : Value) (h : YTxB B u t3 t4 t5 t6 t7 t8 t9 j z W) : YTxB B u t3 t4 t5 t6 t7 t8 t9 j z W' := by
  match j, h with
  | 0, h => exact h
  | 1, h => exact h
  | 2, h => exact h
  | 3, h => exact h
  | 4, h => exact h
  | 5, h => exact h
  | 6, h => exact h
  | 7, h => exact h
  | 8, h => exact h
  | 9, h => exact h
  | 10, h => exact h
  | 11, h => exact h
  | 12, h => exact h
  | _ + 13, h => exact h
/-- A text of these bytes. -/
def mk6 (l : List UInt8) : ByteArray := ⟨l.toArray⟩
theorem rowB_little (u : Us) (h : u.Little) : (rowB u.gs).length ≤ 100 := by
  have : ∀ (gs : List ByteArray), (∀ s ∈ gs, s.size ≤ 12) → (textsB gs).length ≤ 14 * gs.length := fun gs => by
    induction gs with
    | nil => intro _; simp [textsB]
    | cons g gs ih =>
      intro hs
      have h1 := ih (fun s h => hs s (List.mem_cons_of_mem _ h))
      have h2 := hs g (List.mem_cons_self ..)
      have h3 : (textsB (g :: gs)).length = (textB g).length + (textsB gs).length := by simp [textsB]
      rw [h3, textB_length, List.length_cons]
      omega
  have h1 := this u.gs h.all
  have h2 := h.len
  rw [rowB, List.length_append, le_length]
  omega

set_option maxRecDepth 100000 in
set_option maxHeartbeats 2000000 in
theorem rtext6_calls (s : Int) (u : Us) (w : World) (h : u.Ok w) (hl : u.Little) :
    Calls Tryd.prog 15 #[.int .i64 s, u.v] w fun e w' => e = .returned (.string (mk6 (userB s u))) ∧ Below w.heap.size w w' := by
  have n1 := hl.nm
  have n2 := hl.hs
  have n3 := hl.ml
  have n4 := rowB_little u hl
  have htl : ∀ t : ByteArray, (textB t).length = t.size + 2 := textB_length
  have HT : Hid (∀ (t : ByteArray) W, t.size ≤ 20 → Calls Tryd.prog 45 #[.string t] W fun e w' => e = .returned (.string (mk6 (textB t))) ∧ Turns (fun _ => False) W w') := fun t W ht => reftext_calls t W (by omega)
  have HTR : Hid (∀ W, Calls Tryd.prog 46 #[.bool u.dis] W fun e w' => e = .returned (.string (mk6 (le u.dis.toNat 1))) ∧ Turns (fun _ => False) W w') := fun W => reftruth_calls u.dis W
  have HRO : Hid (∀ W, Below w.heap.size w W → Calls Tryd.prog 47 #[.slice u.ga u.gs.length u.gc] W fun e w' => e = .returned (.string (mk6 (rowB u.gs))) ∧ Turns (fun _ => False) W w') := fun W hb => refrow_calls u.ga u.gc u.gs W (h.rd.below hb) (by have := hl.len; omega) (fun s hs => by have := hl.all s hs; omega)
  have HA1 : Hid (∀ W, (Op.stringOp .add (mk6 (textB u.nm)) (mk6 (textB u.hs))).run Tryd.prog W = .ok (.string (mk6 (textB u.nm ++ textB u.hs))) W) := fun W => add_str W _ _ (by rw [htl, htl]; omega)
  have HA2 : Hid (∀ W, (Op.stringOp .add (mk6 (textB u.nm ++ textB u.hs)) (mk6 (textB u.ml))).run Tryd.prog W = .ok (.string (mk6 (textB u.nm ++ textB u.hs ++ textB u.ml))) W) := fun W => add_str W _ _ (by simp only [List.length_append, htl]; omega)
  have HA3 : Hid (∀ W, (Op.stringOp .add (mk6 (textB u.nm ++ textB u.hs ++ textB u.ml)) (mk6 (le u.dis.toNat 1))).run Tryd.prog W = .ok (.string (mk6 (textB u.nm ++ textB u.hs ++ textB u.ml ++ le u.dis.toNat 1))) W) := fun W => add_str W _ _ (by simp only [List.length_append, htl, le_length]; omega)
  have HA4 : Hid (∀ W, (Op.stringOp .add (mk6 (textB u.nm ++ textB u.hs ++ textB u.ml ++ le u.dis.toNat 1)) (mk6 (rowB u.gs))).run Tryd.prog W = .ok (.string (mk6 (textB u.nm ++ textB u.hs ++ textB u.ml ++ le u.dis.toNat 1 ++ rowB u.gs))) W) := fun W => add_str W _ _ (by simp only [List.length_append, htl, le_length]; omega)
  have HU : Hid (userB s u = if s = 2 then textB u.nm ++ textB u.hs ++ textB u.ml ++ le u.dis.toNat 1 ++ rowB u.gs else textB u.nm ++ textB u.hs) := by
    show _ = _
    unfold userB
    split
    · simp only [List.append_assoc]
    · rw [List.append_nil]
  obtain ⟨rt, hrt⟩ : ∃ rt, rt = mk6 (userB s u) := ⟨_, rfl⟩
  rw [← hrt]
  have HRT : Hid (rt = if s = 2 then mk6 (textB u.nm ++ textB u.hs ++ textB u.ml ++ le u.dis.toNat 1 ++ rowB u.gs) else mk6 (textB u.nm ++ textB u.hs)) := by
    show _ = _
    rw [hrt, HU.out]
    split <;> rfl
  have HTN := Lib.hid (fun W => HT.out u.nm W (by omega))
  have HTH := Lib.hid (fun W => HT.out u.hs W (by omega))
  have HTM := Lib.hid (fun W => HT.out u.ml W (by omega))
  have HB0 := Lib.hid (below_alloc (Below.refl w.heap.size w) (.cells #[.string u.nm, .string u.hs, .string u.ml, .bool u.dis, .slice u.ga u.gs.length u.gc] 24))
  have HA := Lib.hid (UsAt.new w u 24)
  clear h hl hrt HU htl n1 n2 n3 n4 HT
  generalize mk6 (textB u.nm ++ textB u.hs ++ textB u.ml ++ le u.dis.toNat 1 ++ rowB u.gs) = t9 at *
  generalize mk6 (textB u.nm ++ textB u.hs ++ textB u.ml ++ le u.dis.toNat 1) = t7 at *
  generalize mk6 (textB u.nm ++ textB u.hs ++ textB u.ml) = t5 at *
  generalize mk6 (textB u.nm ++ textB u.hs) = t3 at *
  generalize mk6 (textB u.nm) = t1 at *
  generalize mk6 (textB u.hs) = t2 at *
  generalize mk6 (textB u.ml) = t4 at *
  generalize mk6 (le u.dis.toNat 1) = t6 at *
  generalize mk6 (rowB u.gs) = t8 at *
  show Calls _ _ #[.int .i64 s, .agg #[.string u.nm, .string u.hs, .string u.ml, .bool u.dis, .slice u.ga u.gs.length u.gc]] _ _
  go_enter Tryd.func15, Tryd.ntmps15
  go_wp2_with fail
  generalize w.alloc (.cells #[.string u.nm, .string u.hs, .string u.ml, .bool u.dis, .slice u.ga u.gs.length u.gc] 24) = w1 at *
  refine wp_region_inv (by kernel_rfl) (fun W => Below w1.heap.size w1 W) (YTxA w.heap.size u t1 t2 t3) ?F ?hF (by kernel_rfl) (by kernel_rfl) (below_drew (Below.refl _ _)) ?step ?fin
  case hF =>
    intro x
    simp only [List.map_cons, List.map_nil, putL, Act.put, List.setIfInBounds_toArray, List.set_cons_zero, List.set_cons_succ, Nat.zero_add, Nat.reduceAdd]
    exact rfl
  case step =>
    refine ⟨?_, ?_, ?_, ?_, ?_, ?_, ?_, ?_, trivial⟩
    all_goals intro x W hW hdep K hK
    · clear hdep
      go_simp
      exact hK _ _ rfl hW (fun _ _ h => h)
    · have h0 : x 0 = _ := hdep 0 rfl
      have c := (HA.out.below hW).c0
      clear hdep
      simp only [h0] at hK
      go_simp
      exact hK _ _ rfl hW (fun _ _ h => h)
    · have h1 : x 1 = _ := hdep 1 rfl
      clear hdep
      simp only [h1] at hK
      go_simp
      refine (HTN.out W).mono ?_
      rintro e W' ⟨rfl, ht⟩
      have hb := ht.below (fun _ f => f.elim)
      exact hK _ _ rfl (below_next hW hb) (fun j z h => YTxA_keep j z h)
    · clear hdep
      go_simp
      exact hK _ _ rfl hW (fun _ _ h => h)
    · have h3 : x 3 = _ := hdep 3 rfl
      have c := (HA.out.below hW).c1
      clear hdep
      simp only [h3] at hK
      go_simp
      exact hK _ _ rfl hW (fun _ _ h => h)
    · have h4 : x 4 = _ := hdep 4 rfl
      clear hdep
      simp only [h4] at hK
      go_simp
      refine (HTH.out W).mono ?_
      rintro e W' ⟨rfl, ht⟩
      have hb := ht.below (fun _ f => f.elim)
      exact hK _ _ rfl (below_next hW hb) (fun j z h => YTxA_keep j z h)
    · have h2 : x 2 = _ := hdep 2 rfl
      have h5 : x 5 = _ := hdep 5 rfl
      have ha := HA1.out W
      clear hdep
      simp only [h2, h5] at hK
      go_simp
      exact hK _ _ rfl hW (fun _ _ h => h)
    · have h6 : x 6 = _ := hdep 6 rfl
      clear hdep
      simp only [h6] at hK
      go_simp
      exact hK _ _ rfl hW (fun _ _ h => h)
  case fin =>
    intro x W hW hY
    have h7 : x 7 = .string t3 := hY 7 (by decide)
    clear hY
    rw [h7]
    clear h7
    have HB2 := Lib.hid (below_next HB0.out hW)
    have HA5 := Lib.hid (HA.out.below hW)
    clear hW HB0 HA
    have HB0 := HB2
    have HA := HA5
    clear HB2 HA5
    by_cases h2 : s = 2
    · have hrt : rt = t9 := by rw [HRT.out, if_pos h2]
      subst hrt
      subst h2
      clear HRT
      go_wp2_with fail
      refine wp_region_own (by kernel_rfl) (fun W' => Below W.heap.size W W') (YTxB w.heap.size u t3 t4 t5 t6 t7 t8 rt) 13 (.string t3) ?F2 ?hF2 (by kernel_rfl) (by kernel_rfl) (below_drew (Below.refl _ _)) rfl (by kernel_rfl) ?step2 ?fin2
      case hF2 =>
        intro x
        simp only [List.map_cons, List.map_nil, putL, Act.put, List.setIfInBounds_toArray, List.set_cons_zero, List.set_cons_succ, Nat.zero_add, Nat.reduceAdd]
        exact rfl
      case step2 =>
        refine ⟨?_, ?_, ?_, ?_, ?_, ?_, ?_, ?_, ?_, ?_, ?_, ?_, ?_, ?_, trivial⟩
        all_goals intro x W hW hown hdep K hK
        · have h13 : x 13 = _ := hown (by decide)
          clear hown
          clear hdep
          simp only [h13] at hK
          go_simp
          exact hK _ _ rfl hW (fun _ _ h => h)
        · clear hown
          clear hdep
          go_simp
          exact hK _ _ rfl hW (fun _ _ h => h)
        · have h1 : x 1 = _ := hdep 1 rfl
          clear hown
          have c := (HA.out.below hW).c2
          clear hdep
          simp only [h1] at hK
          go_simp
          exact hK _ _ rfl hW (fun _ _ h => h)
        · have h2 : x 2 = _ := hdep 2 rfl
          clear hown
          clear hdep
          simp only [h2] at hK
          go_simp
          refine (HTM.out W).mono ?_
          rintro e W' ⟨rfl, ht⟩
          have hb := ht.below (fun _ f => f.elim)
          exact hK _ _ rfl (below_next hW hb) (fun j z h => YTxB_keep j z h)
        · have h0 : x 0 = _ := hdep 0 rfl
          have h3 : x 3 = _ := hdep 3 rfl
          clear hown
          have ha := HA2.out W
          clear hdep
          simp only [h0, h3] at hK
          go_simp
          exact hK _ _ rfl hW (fun _ _ h => h)
        · clear hown
          clear hdep
          go_simp
          exact hK _ _ rfl hW (fun _ _ h => h)
        · have h5 : x 5 = _ := hdep 5 rfl
          clear hown
          have c := (HA.out.below hW).c3
          clear hdep
          simp only [h5] at hK
          go_simp
          exact hK _ _ rfl hW (fun _ _ h => h)
        · have h6 : x 6 = _ := hdep 6 rfl
          clear hown
          clear hdep
          simp only [h6] at hK
          go_simp
          refine (HTR.out W).mono ?_
          rintro e W' ⟨rfl, ht⟩
          have hb := ht.below (fun _ f => f.elim)
          exact hK _ _ rfl (below_next hW hb) (fun j z h => YTxB_keep j z h)
        · have h4 : x 4 = _ := hdep 4 rfl
          have h7 : x 7 = _ := hdep 7 rfl
          clear hown
          have ha := HA3.out W
          clear hdep
          simp only [h4, h7] at hK
          go_simp
          exact hK _ _ rfl hW (fun _ _ h => h)
        · clear hown
          clear hdep
          go_simp
          exact hK _ _ rfl hW (fun _ _ h => h)
        · have h9 : x 9 = _ := hdep 9 rfl
          clear hown
          have c := (HA.out.below hW).c4
          clear hdep
          simp only [h9] at hK
          go_simp
          exact hK _ _ rfl hW (fun _ _ h => h)
        · have h10 : x 10 = _ := hdep 10 rfl
          clear hown
          clear hdep
          simp only [h10] at hK
          go_simp
          refine (HRO.out W (below_next HB0.out hW)).mono ?_
          rintro e W' ⟨rfl, ht⟩
          have hb := ht.below (fun _ f => f.elim)
          exact hK _ _ rfl (below_next hW hb) (fun j z h => YTxB_keep j z h)
        · have h8 : x 8 = _ := hdep 8 rfl
          have h11 : x 11 = _ := hdep 11 rfl
          clear hown
          have ha := HA4.out W
          clear hdep
          simp only [h8, h11] at hK
          go_simp
          exact hK _ _ rfl hW (fun _ _ h => h)
        · have h12 : x 12 = _ := hdep 12 rfl
          clear hown
          clear hdep
          simp only [h12] at hK
          go_simp
          exact hK _ _ rfl hW (fun _ _ h => h)
      case fin2 =>
        intro x W hW hY
        have h13 : x 13 = .string rt := hY 13 (by decide)
        clear hY
        have HF := Lib.hid (below_next HB0.out hW)
        clear hW
        rw [h13]
        go_wp2
        go_ret
        exact ⟨rfl, HF.out⟩
    · have hrt : rt = t3 := by rw [HRT.out, if_neg h2]
      subst hrt
      have h2d : (s == 2) = false := by simpa using h2
      clear HRT
      go_wp2
      go_ret
      exact ⟨rfl, HB0.out⟩
end Go.Proofs.YtghmcbgejeanfaaDoor
