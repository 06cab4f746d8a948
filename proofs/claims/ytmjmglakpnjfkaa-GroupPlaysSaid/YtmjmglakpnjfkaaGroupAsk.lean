/-
  Questions of package group: are these names; do all that ask agree; has a set a name.
  Conditions: each theorem's own.
-/
import Derived.Test.YtmjmglakpnjfkaaGroupDir
import Derived.LoopN
namespace Go.Proofs.Ytmjmglakpnjfkaa
open Go.RowKit Go.Maps

set_option maxRecDepth 100000 in
theorem areNames1_calls (s : ByteArray) (w : World) (hs : s.size ≤ 9223372036854775807) :
    Calls Try.prog 52 #[.string s] w (Tells5 (!name5 s.data.toList) w) := by
  have HN := Lib.hid (Name_calls s w hs)
  cases hb : name5 s.data.toList with
  | false =>
    rw [hb] at HN
    have HN2 : Hid (Calls Try.prog 53 #[.string s] w (Errs5 10 w)) := HN.out
    clear HN hb
    go_enter Try.func52, Try.ntmps52
    go_wp2_with fail
    with_reducible refine HN2.out.mono ?_
    rintro e w1 ⟨rfl, hb⟩
    have HB := Lib.hid hb
    clear hb HN2
    go_wp2
    go_ret
    exact ⟨rfl, HB.out⟩
  | true =>
    rw [hb] at HN
    have HN2 : Hid (Calls Try.prog 53 #[.string s] w (Errs5 0 w)) := HN.out
    clear HN hb
    go_enter Try.func52, Try.ntmps52
    go_wp2_with fail
    with_reducible refine HN2.out.mono ?_
    rintro e w1 ⟨rfl, hb⟩
    have HB := Lib.hid hb
    clear hb HN2
    go_wp2
    go_ret
    exact ⟨rfl, HB.out⟩

set_option maxRecDepth 100000 in
theorem index10_none (fv : Value) (w : World) : Calls Try.prog 63 #[.slice none 0 0, fv] w fun e w' => e = .returned (.int .i64 (-1)) ∧ w' = w := by
  go_enter Try.func63, Try.ntmps63
  go_wp2
  refine wp_loop_rounds 1 ?_
  rw [rounds_succ]
  go_wp2
  go_ret
  exact ⟨rfl, rfl⟩
set_option maxRecDepth 100000 in
theorem index10_one (g : Nat) (B : Nat) (s : ByteArray) (b : Bool) (w : World) (eg : ∀ args w, (callFunc g args).run Try.prog w = .ok (.enter g args) w) (hc : w.cell? ⟨B, 0, none⟩ = some (.string s)) (hp : Calls Try.prog g #[.string s] w (Tells5 b w)) :
    Calls Try.prog 63 #[.slice (some ⟨B, 0, none⟩) 1 1, .func (.func g) #[] #[]] w fun e w' => e = .returned (.int .i64 (if b then 0 else -1)) ∧ Below w.heap.size w w' := by
  have HP := Lib.hid hp
  clear hp
  cases b with
  | true =>
    go_enter Try.func63, Try.ntmps63
    go_wp2
    refine wp_loop_rounds 1 ?_
    rw [rounds_succ]
    go_wp2_with (go_at_fn g; (with_reducible refine HP.out.mono ?_); rintro e w1 ⟨rfl, hb⟩; have HB := Lib.hid hb; clear hb)
    go_ret
    exact ⟨rfl, HB.out⟩
  | false =>
    go_enter Try.func63, Try.ntmps63
    go_wp2
    refine wp_loop_rounds 2 ?_
    rw [rounds_succ]
    go_wp2_with (go_at_fn g; (with_reducible refine HP.out.mono ?_); rintro e w1 ⟨rfl, hb⟩; have HB := Lib.hid hb; clear hb)
    rw [rounds_succ]
    go_wp2
    go_ret
    exact ⟨rfl, HB.out⟩
set_option maxRecDepth 100000 in
theorem contains10_none (fv : Value) (w : World) : Calls Try.prog 51 #[.slice none 0 0, fv] w fun e w' => e = .returned (.bool false) ∧ w' = w := by
  have HP := Lib.hid (index10_none fv w)
  go_enter Try.func51, Try.ntmps51
  go_wp2_with fail
  with_reducible refine HP.out.mono ?_
  rintro e w1 ⟨rfl, rfl⟩
  go_wp2
  go_ret
  exact ⟨rfl, rfl⟩
set_option maxRecDepth 100000 in
theorem contains10_one (g : Nat) (B : Nat) (s : ByteArray) (b : Bool) (w : World) (eg : ∀ args w, (callFunc g args).run Try.prog w = .ok (.enter g args) w) (hc : w.cell? ⟨B, 0, none⟩ = some (.string s)) (hp : Calls Try.prog g #[.string s] w (Tells5 b w)) :
    Calls Try.prog 51 #[.slice (some ⟨B, 0, none⟩) 1 1, .func (.func g) #[] #[]] w (Tells5 b w) := by
  have HP := Lib.hid (index10_one g B s b w eg hc hp)
  clear hp hc
  cases b with
  | true =>
    go_enter Try.func51, Try.ntmps51
    go_wp2_with fail
    with_reducible refine HP.out.mono ?_
    rintro e w1 ⟨rfl, hb⟩
    have HB := Lib.hid hb
    clear hb HP
    go_wp2
    go_ret
    exact ⟨rfl, HB.out⟩
  | false =>
    go_enter Try.func51, Try.ntmps51
    go_wp2_with fail
    with_reducible refine HP.out.mono ?_
    rintro e w1 ⟨rfl, hb⟩
    have HB := Lib.hid hb
    clear hb HP
    go_wp2
    go_ret
    exact ⟨rfl, HB.out⟩
set_option maxRecDepth 100000 in
theorem areNames_none (w : World) : Calls Try.prog 38 #[.slice none 0 0] w fun e w' => e = .returned (.bool true) ∧ w' = w := by
  have HP := Lib.hid (contains10_none (.func (.func 52) #[] #[]) w)
  go_enter Try.func38, Try.ntmps38
  go_wp2_with fail
  with_reducible refine HP.out.mono ?_
  rintro e w1 ⟨rfl, rfl⟩
  go_wp2
  go_ret
  exact ⟨rfl, rfl⟩
set_option maxRecDepth 100000 in
theorem areNames_one (B : Nat) (s : ByteArray) (w : World) (hs : s.size ≤ 9223372036854775807) (hc : w.cell? ⟨B, 0, none⟩ = some (.string s)) : Calls Try.prog 38 #[.slice (some ⟨B, 0, none⟩) 1 1] w (Tells5 (name5 s.data.toList) w) := by
  have HP := Lib.hid (contains10_one _ B s _ w (enters_of Try.func52 (by kernel_rfl) rfl) hc (areNames1_calls s w hs))
  clear hc
  generalize name5 s.data.toList = b at *
  cases b with
  | true =>
    go_enter Try.func38, Try.ntmps38
    go_wp2_with fail
    with_reducible refine HP.out.mono ?_
    rintro e w1 ⟨rfl, hb⟩
    have HB := Lib.hid hb
    clear hb HP
    go_wp2
    go_ret
    exact ⟨rfl, HB.out⟩
  | false =>
    go_enter Try.func38, Try.ntmps38
    go_wp2_with fail
    with_reducible refine HP.out.mono ?_
    rintro e w1 ⟨rfl, hb⟩
    have HB := Lib.hid hb
    clear hb HP
    go_wp2
    go_ret
    exact ⟨rfl, HB.out⟩

/-! ### has -/
set_option maxRecDepth 100000 in
theorem hasfn_calls (s : ByteArray) (w : World) : Calls Try.prog 37 #[.string s] w fun e w' => e = .returned (.func (.func 50) #[] #[.pointer (some ⟨w.heap.size, 0, none⟩)]) ∧ w' = w.alloc (.cells #[.string s] 9) := by
  have hmf := mkf
  go_enter Try.func37, Try.ntmps37
  go_wp2
  go_ret
  exact ⟨rfl, rfl⟩
set_option maxRecDepth 100000 in
theorem has1_calls (C b : Nat) (L : Set10) (s : ByteArray) (w : World) (hs : s.size ≤ maxLen) (hc : w.cell? ⟨C, 0, none⟩ = some (.string s)) (h : Set10At w b L) : Calls Try.prog 50 #[.map (some b), .pointer (some ⟨C, 0, none⟩)] w fun e w' => e = .returned (.bool (hasV L s.data.toList)) ∧ w' = w := by
  have hl := has10 h s hs
  generalize hasV L s.data.toList = r at *
  clear h
  go_enter Try.func50, Try.ntmps50
  go_wp2
  go_ret
  exact ⟨rfl, rfl⟩

/-! ### every -/
set_option maxRecDepth 100000 in
theorem indexb10_none (fv : Value) (w : World) : Calls Try.prog 78 #[.slice none 0 0, fv] w fun e w' => e = .returned (.int .i64 (-1)) ∧ w' = w := by
  go_enter Try.func78, Try.ntmps78
  go_wp2
  refine wp_loop_rounds 1 ?_
  rw [rounds_succ]
  go_wp2
  go_ret
  exact ⟨rfl, rfl⟩
set_option maxRecDepth 100000 in
theorem containsb10_none (fv : Value) (w : World) : Calls Try.prog 61 #[.slice none 0 0, fv] w fun e w' => e = .returned (.bool false) ∧ w' = w := by
  have HP := Lib.hid (indexb10_none fv w)
  go_enter Try.func61, Try.ntmps61
  go_wp2_with fail
  with_reducible refine HP.out.mono ?_
  rintro e w1 ⟨rfl, rfl⟩
  go_wp2
  go_ret
  exact ⟨rfl, rfl⟩
set_option maxRecDepth 100000 in
theorem everyb_none (c : Bool) (w : World) : Calls Try.prog 47 #[.bool c, .slice none 0 0] w (Tells5 true w) := by
  have hmf := mkf
  have HP : Hid (∀ fv W, Calls Try.prog 61 #[.slice none 0 0, fv] W fun e w' => e = .returned (.bool false) ∧ w' = W) := containsb10_none
  have HB := Lib.hid (below_alloc (Below.refl w.heap.size w) (.cells #[.bool c] 4))
  go_enter Try.func47, Try.ntmps47
  go_wp2_with fail
  with_reducible refine (HP.out _ _).mono ?_
  rintro e w1 ⟨rfl, rfl⟩
  go_wp2
  go_ret
  exact ⟨rfl, HB.out⟩
set_option maxRecDepth 100000 in
theorem indexs10_none (fv : Value) (w : World) : Calls Try.prog 66 #[.slice none 0 0, fv] w fun e w' => e = .returned (.int .i64 (-1)) ∧ w' = w := by
  go_enter Try.func66, Try.ntmps66
  go_wp2
  refine wp_loop_rounds 1 ?_
  rw [rounds_succ]
  go_wp2
  go_ret
  exact ⟨rfl, rfl⟩
set_option maxRecDepth 100000 in
theorem indexs10_one (g : Nat) (B C : Nat) (f : Value) (b : Bool) (w : World) (eg : ∀ args w, (callFunc g args).run Try.prog w = .ok (.enter g args) w) (hc : w.cell? ⟨B, 0, none⟩ = some f) (hp : Calls Try.prog g #[f, .pointer (some ⟨C, 0, none⟩)] w (Tells5 b w)) :
    Calls Try.prog 66 #[.slice (some ⟨B, 0, none⟩) 1 1, .func (.func g) #[] #[.pointer (some ⟨C, 0, none⟩)]] w fun e w' => e = .returned (.int .i64 (if b then 0 else -1)) ∧ Below w.heap.size w w' := by
  have HP := Lib.hid hp
  clear hp
  cases b with
  | true =>
    go_enter Try.func66, Try.ntmps66
    go_wp2
    refine wp_loop_rounds 1 ?_
    rw [rounds_succ]
    go_wp2_with (go_at_fn g; (with_reducible refine HP.out.mono ?_); rintro e w1 ⟨rfl, hb⟩; have HB := Lib.hid hb; clear hb)
    go_ret
    exact ⟨rfl, HB.out⟩
  | false =>
    go_enter Try.func66, Try.ntmps66
    go_wp2
    refine wp_loop_rounds 2 ?_
    rw [rounds_succ]
    go_wp2_with (go_at_fn g; (with_reducible refine HP.out.mono ?_); rintro e w1 ⟨rfl, hb⟩; have HB := Lib.hid hb; clear hb)
    rw [rounds_succ]
    go_wp2
    go_ret
    exact ⟨rfl, HB.out⟩
set_option maxRecDepth 100000 in
theorem containss10_none (fv : Value) (w : World) : Calls Try.prog 56 #[.slice none 0 0, fv] w fun e w' => e = .returned (.bool false) ∧ w' = w := by
  have HP := Lib.hid (indexs10_none fv w)
  go_enter Try.func56, Try.ntmps56
  go_wp2_with fail
  with_reducible refine HP.out.mono ?_
  rintro e w1 ⟨rfl, rfl⟩
  go_wp2
  go_ret
  exact ⟨rfl, rfl⟩
set_option maxRecDepth 100000 in
theorem containss10_one (g : Nat) (B C : Nat) (f : Value) (b : Bool) (w : World) (eg : ∀ args w, (callFunc g args).run Try.prog w = .ok (.enter g args) w) (hc : w.cell? ⟨B, 0, none⟩ = some f) (hp : Calls Try.prog g #[f, .pointer (some ⟨C, 0, none⟩)] w (Tells5 b w)) :
    Calls Try.prog 56 #[.slice (some ⟨B, 0, none⟩) 1 1, .func (.func g) #[] #[.pointer (some ⟨C, 0, none⟩)]] w (Tells5 b w) := by
  have HP := Lib.hid (indexs10_one g B C f b w eg hc hp)
  clear hp hc
  cases b with
  | true =>
    go_enter Try.func56, Try.ntmps56
    go_wp2_with fail
    with_reducible refine HP.out.mono ?_
    rintro e w1 ⟨rfl, hb⟩
    have HB := Lib.hid hb
    clear hb HP
    go_wp2
    go_ret
    exact ⟨rfl, HB.out⟩
  | false =>
    go_enter Try.func56, Try.ntmps56
    go_wp2_with fail
    with_reducible refine HP.out.mono ?_
    rintro e w1 ⟨rfl, hb⟩
    have HB := Lib.hid hb
    clear hb HP
    go_wp2
    go_ret
    exact ⟨rfl, HB.out⟩
set_option maxRecDepth 100000 in
theorem everys_none (p : Option Nat) (w : World) : Calls Try.prog 44 #[.map p, .slice none 0 0] w (Tells5 true w) := by
  have hmf := mkf
  have HP : Hid (∀ fv W, Calls Try.prog 56 #[.slice none 0 0, fv] W fun e w' => e = .returned (.bool false) ∧ w' = W) := containss10_none
  have HB := Lib.hid (below_alloc (Below.refl w.heap.size w) (.cells #[.map p] 59))
  go_enter Try.func44, Try.ntmps44
  go_wp2_with fail
  with_reducible refine (HP.out _ _).mono ?_
  rintro e w1 ⟨rfl, rfl⟩
  go_wp2
  go_ret
  exact ⟨rfl, HB.out⟩
set_option maxRecDepth 100000 in
theorem everys1_calls (C D b : Nat) (L : Set10) (s : ByteArray) (w : World) (hs : s.size ≤ maxLen) (hC : w.cell? ⟨C, 0, none⟩ = some (.string s)) (hD : w.cell? ⟨D, 0, none⟩ = some (.map (some b))) (h : Set10At w b L) :
    Calls Try.prog 57 #[.func (.func 50) #[] #[.pointer (some ⟨C, 0, none⟩)], .pointer (some ⟨D, 0, none⟩)] w (Tells5 (!hasV L s.data.toList) w) := by
  have eg : ∀ args w, (callFunc 50 args).run Try.prog w = .ok (.enter 50 args) w := enters_of Try.func50 (by kernel_rfl) rfl
  have HP : Hid (Calls Try.prog 50 #[.map (some b), .pointer (some ⟨C, 0, none⟩)] w (Tells5 (hasV L s.data.toList) w)) := (has1_calls C b L s w hs hC h).mono fun e w' ⟨he, hw⟩ => ⟨he, by rw [hw]; exact Below.refl _ _⟩
  clear hC h
  generalize hasV L s.data.toList = r at *
  cases r with
  | true =>
    show Calls _ _ _ _ (Tells5 false w)
    go_enter Try.func57, Try.ntmps57
    go_wp2_with (go_at_fn 50; (with_reducible refine HP.out.mono ?_); rintro e w1 ⟨rfl, hb⟩; have HB := Lib.hid hb; clear hb)
    go_ret
    exact ⟨rfl, HB.out⟩
  | false =>
    show Calls _ _ _ _ (Tells5 true w)
    go_enter Try.func57, Try.ntmps57
    go_wp2_with (go_at_fn 50; (with_reducible refine HP.out.mono ?_); rintro e w1 ⟨rfl, hb⟩; have HB := Lib.hid hb; clear hb)
    go_ret
    exact ⟨rfl, HB.out⟩
set_option maxRecDepth 100000 in
/-- Of a set, and of one that asks whether it has a name. -/
theorem everys_one (A C b : Nat) (L : Set10) (s : ByteArray) (w : World) (hs : s.size ≤ maxLen) (hA : w.cell? ⟨A, 0, none⟩ = some (.func (.func 50) #[] #[.pointer (some ⟨C, 0, none⟩)])) (hC : w.cell? ⟨C, 0, none⟩ = some (.string s)) (h : Set10At w b L) :
    Calls Try.prog 44 #[.map (some b), .slice (some ⟨A, 0, none⟩) 1 1] w (Tells5 (hasV L s.data.toList) w) := by
  have hmf := mkf
  have hb := below_alloc (Below.refl w.heap.size w) (.cells #[.map (some b)] 59)
  have lA : A < w.heap.size := World.block_lt_of_cell? w _ hA
  have lC : C < w.heap.size := World.block_lt_of_cell? w _ hC
  have cA := (hb.cell (p := ⟨A, 0, none⟩) lA).trans hA
  have cC := (hb.cell (p := ⟨C, 0, none⟩) lC).trans hC
  have cD : (w.alloc (.cells #[.map (some b)] 59)).cell? ⟨w.heap.size, 0, none⟩ = some (.map (some b)) := by rw [World.cell?_alloc_at _ _ _ _ rfl]; rfl
  have HP := Lib.hid (containss10_one _ A w.heap.size _ _ _ (enters_of Try.func57 (by kernel_rfl) rfl) cA (everys1_calls C w.heap.size b L s _ hs cC cD (h.kept (hb.block b (World.ownsMap.lt h)))))
  have HB := Lib.hid hb
  clear hb cA cC cD h hA hC lA lC
  generalize hasV L s.data.toList = r at *
  cases r with
  | true =>
    go_enter Try.func44, Try.ntmps44
    go_wp2_with fail
    with_reducible refine HP.out.mono ?_
    rintro e w1 ⟨rfl, hb1⟩
    have HB1 := Lib.hid (below_next HB.out hb1)
    clear hb1 HP
    go_wp2
    go_ret
    exact ⟨rfl, HB1.out⟩
  | false =>
    go_enter Try.func44, Try.ntmps44
    go_wp2_with fail
    with_reducible refine HP.out.mono ?_
    rintro e w1 ⟨rfl, hb1⟩
    have HB1 := Lib.hid (below_next HB.out hb1)
    clear hb1 HP
    go_wp2
    go_ret
    exact ⟨rfl, HB1.out⟩
end Go.Proofs.Ytmjmglakpnjfkaa
