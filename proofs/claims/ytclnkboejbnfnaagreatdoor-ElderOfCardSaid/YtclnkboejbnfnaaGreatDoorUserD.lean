/-
  What Check of package user tells: the first error, or none.
  Conditions: texts and rows are no longer than they may be; the library's own variable MaxLen holds some number.
-/
import Derived.Test.YtclnkboejbnfnaaGreatDoorUserC
namespace Go.Proofs.YtclnkboejbnfnaaGreatDoor
open Go.RowKit

/-- Errors in a row, in memory. -/
def Errs6 (W : World) (v : Value) (es : List Int) : Prop :=
  ∃ G, v = .slice (some ⟨G, 0, none⟩) es.length es.length ∧ G < W.heap.size ∧ ∀ j (h : j < es.length), W.cell? ⟨G, j, none⟩ = some (.int .i64 es[j])
theorem Errs6.below {W W' : World} {v : Value} {es : List Int} (h : Errs6 W v es) (hb : Below W.heap.size W W') : Errs6 W' v es := by
  obtain ⟨G, e, hl, hc⟩ := h
  exact ⟨G, e, Nat.lt_of_lt_of_le hl hb.size, fun j hj => (hb.cell (p := ⟨G, j, none⟩) hl).trans (hc j hj)⟩
theorem errs6_new (W : World) (es : List Int) (t : TypeId) : Errs6 (W.alloc (.cells (es.map (Value.int .i64)).toArray t)) (.slice (some ⟨W.heap.size, 0, none⟩) es.length es.length) es := by
  refine ⟨_, rfl, by simp, fun j hj => ?_⟩
  rw [World.cell?_alloc_at _ _ _ _ rfl]
  simp [hj]
theorem Errs6.first {W : World} {v : Value} {es : List Int} (h : Errs6 W v es) (hn : es.length ≤ 1000) : Calls Tryz.prog 200 #[v] W fun e w' => e = .returned (.int .i64 (first6 es)) ∧ w' = W := by
  obtain ⟨G, rfl, _, hc⟩ := h
  exact first6_calls G es.length es.length es W rfl hn hc

/-- It has nothing but a name and a sum. -/
def bare6 (u : Us) : Bool := sameU u (upU u)
/-- What each operation makes. -/
def YBare (u : Us) (q : Bool) (e : Int) : Nat → Value → World → Prop
  | 0, v, _ => v = u.v
  | 1, v, _ => v = u.v
  | 2, v, _ => v = (upU u).v
  | 3, v, _ => v = .bool q
  | 4, v, _ => v = .int .i64 e
  | _, v, _ => v = .int .i64 e
theorem YBare_keep {u : Us} {q : Bool} {e : Int} {W W' : World} (_hb : Below W.heap.size W W') (j : Nat) (z : Value) (h : YBare u q e j z W) : YBare u q e j z W' := by
  match j, h with
  | 0, h => exact h
  | 1, h => exact h
  | 2, h => exact h
  | 3, h => exact h
  | 4, h => exact h
  | _ + 5, h => exact h

set_option maxRecDepth 100000 in
set_option maxHeartbeats 1000000 in
theorem bare6_calls (u : Us) (w : World) (h : u.Ok w) : Calls Tryz.prog 202 #[u.v] w (Errs5 (err5 (bare6 u) 12) w) := by
  have HS : Hid (∀ W, Below w.heap.size w W → Calls Tryz.prog 251 #[u.v, (upU u).v] W (Tells5 (bare6 u) W)) := fun W hb => same6_calls u (upU u) W (h.below hb) (upU_ok h W)
  have HP : Hid (∀ W, Calls Tryz.prog 70 #[u.v] W fun e w' => e = .returned (upU u).v ∧ Below W.heap.size W w') := fun W => up6_calls u W
  have HU : Hid (∀ W, Calls Tryz.prog 250 #[.bool (bare6 u), .int .i64 12] W fun e w' => e = .returned (.int .i64 (err5 (bare6 u) 12)) ∧ w' = W) := fun W => unless6_calls (bare6 u) 12 W
  have hat := UsAt.new w u 26
  clear h
  generalize err5 (bare6 u) 12 = r at *
  generalize bare6 u = q at *
  have HA := Lib.hid hat
  have HB0 := Lib.hid (below_alloc (Below.refl w.heap.size w) (.cells #[.string u.nm, .string u.hs, .string u.ml, .bool u.dis, .slice u.ga u.gs.length u.gc] 26))
  clear hat
  show Calls _ _ #[.agg #[.string u.nm, .string u.hs, .string u.ml, .bool u.dis, .slice u.ga u.gs.length u.gc]] _ _
  go_enter Tryz.func202, Tryz.ntmps202
  go_wp2_with fail
  generalize w.alloc (.cells #[.string u.nm, .string u.hs, .string u.ml, .bool u.dis, .slice u.ga u.gs.length u.gc] 26) = w1 at *
  refine wp_region_inv (by kernel_rfl) (fun W => Below w1.heap.size w1 W) (YBare u q r) ?F ?hF (by kernel_rfl) (by kernel_rfl) (below_drew (Below.refl _ _)) ?step ?fin
  case hF =>
    intro x
    simp only [List.map_cons, List.map_nil, putL, Act.put, List.setIfInBounds_toArray, List.set_cons_zero, List.set_cons_succ, Nat.zero_add, Nat.reduceAdd]
    exact rfl
  case step =>
    refine ⟨?_, ?_, ?_, ?_, ?_, ?_, trivial⟩
    all_goals intro x W hW hdep K hK
    · have hc := HA.out.below hW
      have c0 := hc.c0
      have c1 := hc.c1
      have c2 := hc.c2
      have c3 := hc.c3
      have c4 := hc.c4
      clear hdep
      go_simp
      exact hK _ _ rfl hW (fun _ _ h => h)
    · have hc := HA.out.below hW
      have c0 := hc.c0
      have c1 := hc.c1
      have c2 := hc.c2
      have c3 := hc.c3
      have c4 := hc.c4
      clear hdep
      go_simp
      exact hK _ _ rfl hW (fun _ _ h => h)
    · have h1 : x 1 = _ := hdep 1 rfl
      clear hdep
      simp only [h1] at hK
      go_simp
      refine (HP.out W).mono ?_
      rintro e W' ⟨rfl, hb⟩
      exact hK _ _ rfl (below_next hW hb) (fun j u h => YBare_keep hb j u h)
    · have h0 : x 0 = _ := hdep 0 rfl
      have h2 : x 2 = _ := hdep 2 rfl
      clear hdep
      simp only [h0, h2] at hK
      go_simp
      refine (HS.out W (below_next HB0.out hW)).mono ?_
      rintro e W' ⟨rfl, hb⟩
      exact hK _ _ rfl (below_next hW hb) (fun j u h => YBare_keep hb j u h)
    · have h3 : x 3 = _ := hdep 3 rfl
      clear hdep
      simp only [h3] at hK
      go_simp
      refine (HU.out W).mono ?_
      rintro e W' ⟨rfl, rfl⟩
      exact hK _ _ rfl hW (fun _ _ h => h)
    · have h4 : x 4 = _ := hdep 4 rfl
      clear hdep
      simp only [h4] at hK
      go_simp
      exact hK _ _ rfl hW (fun _ _ h => h)
  case fin =>
    intro x W hW hY
    have h5 : x 5 = .int .i64 r := hY 5 (by decide)
    clear hY
    have HF := Lib.hid (below_next HB0.out hW)
    clear hW HS HP HU HA HB0
    rw [h5]
    go_wp2
    go_ret
    exact ⟨rfl, HF.out⟩

/-- What each operation makes. -/
def YChkA (s : Int) (B : Nat) (u : Us) (e0 e1 e2 : Int) : Nat → Value → World → Prop
  | 0, v, _ => v = .int .i64 s
  | 1, v, _ => v = .int .i64 e0
  | 2, v, _ => v = .pointer (some ⟨B, 0, none⟩)
  | 3, v, _ => v = .string u.nm
  | 4, v, _ => v = .int .i64 e1
  | 5, v, _ => v = .pointer (some ⟨B, 1, none⟩)
  | 6, v, _ => v = .string u.hs
  | 7, v, _ => v = .int .i64 e2
  | 8, v, W => Errs6 W v [e0, e1, e2]
  | 9, v, _ => v = .int .i64 (first6 [e0, e1, e2])
  | _, v, _ => v = .int .i64 (first6 [e0, e1, e2])
theorem YChkA_keep {s : Int} {B : Nat} {u : Us} {e0 e1 e2 : Int} {W W' : World} (hb : Below W.heap.size W W') (j : Nat) (z : Value) (h : YChkA s B u e0 e1 e2 j z W) : YChkA s B u e0 e1 e2 j z W' := by
  match j, h with
  | 0, h => exact h
  | 1, h => exact h
  | 2, h => exact h
  | 3, h => exact h
  | 4, h => exact h
  | 5, h => exact h
  | 6, h => exact h
  | 7, h => exact h
  | 8, h => exact h.below hb
  | 9, h => exact h
  | _ + 10, h => exact h
/-- What each operation makes. -/
def YChkB (B : Nat) (u : Us) (e0 e1 e2 e3 e4 : Int) : Nat → Value → World → Prop
  | 0, v, _ => v = .int .i64 e0
  | 1, v, _ => v = .pointer (some ⟨B, 2, none⟩)
  | 2, v, _ => v = .string u.ml
  | 3, v, _ => v = .int .i64 e1
  | 4, v, _ => v = .pointer (some ⟨B, 4, none⟩)
  | 5, v, _ => v = .slice u.ga u.gs.length u.gc
  | 6, v, _ => v = .int .i64 e2
  | 7, v, _ => v = .pointer (some ⟨B, 4, none⟩)
  | 8, v, _ => v = .slice u.ga u.gs.length u.gc
  | 9, v, _ => v = .int .i64 e3
  | 10, v, _ => v = .pointer (some ⟨B, 4, none⟩)
  | 11, v, _ => v = .slice u.ga u.gs.length u.gc
  | 12, v, _ => v = .int .i64 e4
  | 13, v, W => Errs6 W v [e0, e1, e2, e3, e4]
  | 14, v, _ => v = .int .i64 (first6 [e0, e1, e2, e3, e4])
  | _, v, _ => v = .int .i64 (first6 [e0, e1, e2, e3, e4])
theorem YChkB_keep {B : Nat} {u : Us} {e0 e1 e2 e3 e4 : Int} {W W' : World} (hb : Below W.heap.size W W') (j : Nat) (z : Value) (h : YChkB B u e0 e1 e2 e3 e4 j z W) : YChkB B u e0 e1 e2 e3 e4 j z W' := by
  match j, h with
  | 0, h => exact h
  | 1, h => exact h
  | 2, h => exact h
  | 3, h => exact h
  | 4, h => exact h
  | 5, h => exact h
  | 6, h => exact h
  | 7, h => exact h
  | 8, h => exact h
  | 9, h => exact h
  | 10, h => exact h
  | 11, h => exact h
  | 12, h => exact h
  | 13, h => exact h.below hb
  | 14, h => exact h
  | _ + 15, h => exact h

/-- What Check tells. -/
def chk6 (s : Int) (u : Us) : Int :=
  let e := first6 [err5 (know6 s) 6, err5 (name5 u.nm.data.toList) 10, err5 (hash5 u.hs.data.toList) 4]
  if s = 1 then first6 [e, err5 (bare6 u) 12] else first6 [e, err5 (fold6 u.ml) 11, err5 (decide (u.gs.length ≤ 6)) 7, err5 (names6 u.gs) 10, err5 (rise6 u.gs) 9]

set_option maxRecDepth 100000 in
set_option maxHeartbeats 2000000 in
theorem check6_calls (s : Int) (u : Us) (w : World) (h : u.Ok w) (hm : Len5 w) : Calls Tryz.prog 116 #[.int .i64 s, u.v] w (Errs5 (chk6 s u) w) := by
  have HK : Hid (∀ W, Calls Tryz.prog 201 #[.int .i64 s] W fun e w' => e = .returned (.int .i64 (err5 (know6 s) 6)) ∧ w' = W) := fun W => known6_calls s W
  have HN : Hid (∀ W, Calls Tryz.prog 81 #[.string u.nm] W (Errs5 (err5 (name5 u.nm.data.toList) 10) W)) := fun W => Name_calls u.nm W (Nat.le_trans h.nm (by omega))
  have HH : Hid (∀ W, Calls Tryz.prog 154 #[.string u.hs] W (Errs5 (err5 (hash5 u.hs.data.toList) 4) W)) := fun W => Hash_calls u.hs W (Nat.le_trans h.hs (by omega))
  have HBR : Hid (∀ W, Below w.heap.size w W → Calls Tryz.prog 202 #[u.v] W (Errs5 (err5 (bare6 u) 12) W)) := fun W hb => bare6_calls u W (h.below hb)
  have HFO : Hid (∀ W, Below w.heap.size w W → Calls Tryz.prog 203 #[.string u.ml] W (Errs5 (err5 (fold6 u.ml) 11) W)) := fun W hb => folded6_calls u.ml W (Nat.le_trans h.ml (by omega)) (hm.later hb)
  have HFW : Hid (∀ W, Calls Tryz.prog 204 #[.slice u.ga u.gs.length u.gc] W fun e w' => e = .returned (.int .i64 (err5 (decide (u.gs.length ≤ 6)) 7)) ∧ w' = W) := fun W => few6_calls u.ga u.gs.length u.gc W
  have HNS : Hid (∀ W, Below w.heap.size w W → Calls Tryz.prog 205 #[.slice u.ga u.gs.length u.gc] W (Errs5 (err5 (names6 u.gs) 10) W)) := fun W hb => names6_calls u.ga u.gs.length u.gc u.gs W rfl (h.rd.below hb) (Nat.le_trans h.len h.cap) h.all
  have HRI : Hid (∀ W, Below w.heap.size w W → Calls Tryz.prog 206 #[.slice u.ga u.gs.length u.gc] W (Errs5 (err5 (rise6 u.gs) 9) W)) := fun W hb =>
    (rising6_calls u.ga u.gs.length u.gc u.gs W rfl (h.rd.below hb) (Nat.le_trans h.len h.cap)).mono fun e w' ⟨he, q, hq⟩ => ⟨he, by rw [hq]; exact below_drewN (Below.refl _ _) q⟩
  have HF2 : Hid (∀ (x y : Int) (W : World), Calls Tryz.prog 200 #[.slice (some ⟨W.heap.size, 0, none⟩) 2 2] (W.alloc (.cells #[.int .i64 x, .int .i64 y] 29)) fun e w' => e = .returned (.int .i64 (first6 [x, y])) ∧ w' = W.alloc (.cells #[.int .i64 x, .int .i64 y] 29)) :=
    fun x y W => first6_calls _ 2 2 [x, y] _ rfl (by omega) (two_cells W _ x y)
  have hat := UsAt.new w u 26
  have hb0 := below_alloc (Below.refl w.heap.size w) (.cells #[.string u.nm, .string u.hs, .string u.ml, .bool u.dis, .slice u.ga u.gs.length u.gc] 26)
  clear h hm
  obtain ⟨r, hr⟩ : ∃ r, r = chk6 s u := ⟨_, rfl⟩
  rw [← hr]
  unfold chk6 at hr
  have HR := Lib.hid hr
  clear hr
  generalize err5 (know6 s) 6 = e0 at *
  generalize err5 (name5 u.nm.data.toList) 10 = e1 at *
  generalize err5 (hash5 u.hs.data.toList) 4 = e2 at *
  generalize err5 (bare6 u) 12 = e3 at *
  generalize err5 (fold6 u.ml) 11 = e4 at *
  generalize err5 (decide (u.gs.length ≤ 6)) 7 = e5 at *
  generalize err5 (names6 u.gs) 10 = e6 at *
  generalize err5 (rise6 u.gs) 9 = e7 at *
  have HA := Lib.hid hat
  have HB0 := Lib.hid hb0
  clear hat hb0
  have huv : Hid (u.v = .agg #[.string u.nm, .string u.hs, .string u.ml, .bool u.dis, .slice u.ga u.gs.length u.gc]) := rfl
  rw [huv.out]
  go_enter Tryz.func116, Tryz.ntmps116
  go_wp2_with fail
  generalize w.alloc (.cells #[.string u.nm, .string u.hs, .string u.ml, .bool u.dis, .slice u.ga u.gs.length u.gc] 26) = w1 at *
  refine wp_region_inv (by kernel_rfl) (fun W => Below w1.heap.size w1 W) (YChkA s w.heap.size u e0 e1 e2) ?F ?hF (by kernel_rfl) (by kernel_rfl) (below_drew (Below.refl _ _)) ?step ?fin
  case hF =>
    intro x
    simp only [List.map_cons, List.map_nil, putL, Act.put, List.setIfInBounds_toArray, List.set_cons_zero, List.set_cons_succ, Nat.zero_add, Nat.reduceAdd]
    exact rfl
  case step =>
    refine ⟨?_, ?_, ?_, ?_, ?_, ?_, ?_, ?_, ?_, ?_, ?_, trivial⟩
    all_goals intro x W hW hdep K hK
    · clear hdep
      go_simp
      exact hK _ _ rfl hW (fun _ _ h => h)
    · have h0 : x 0 = _ := hdep 0 rfl
      clear hdep
      simp only [h0] at hK
      go_simp
      refine (HK.out W).mono ?_
      rintro e W' ⟨rfl, rfl⟩
      exact hK _ _ rfl hW (fun _ _ h => h)
    · clear hdep
      go_simp
      exact hK _ _ rfl hW (fun _ _ h => h)
    · have h2 : x 2 = _ := hdep 2 rfl
      have c0 := (HA.out.below hW).c0
      clear hdep
      simp only [h2] at hK
      go_simp
      exact hK _ _ rfl hW (fun _ _ h => h)
    · have h3 : x 3 = _ := hdep 3 rfl
      clear hdep
      simp only [h3] at hK
      go_simp
      refine (HN.out W).mono ?_
      rintro e W' ⟨rfl, hb⟩
      exact hK _ _ rfl (below_next hW hb) (fun j u h => YChkA_keep hb j u h)
    · clear hdep
      go_simp
      exact hK _ _ rfl hW (fun _ _ h => h)
    · have h5 : x 5 = _ := hdep 5 rfl
      have c1 := (HA.out.below hW).c1
      clear hdep
      simp only [h5] at hK
      go_simp
      exact hK _ _ rfl hW (fun _ _ h => h)
    · have h6 : x 6 = _ := hdep 6 rfl
      clear hdep
      simp only [h6] at hK
      go_simp
      refine (HH.out W).mono ?_
      rintro e W' ⟨rfl, hb⟩
      exact hK _ _ rfl (below_next hW hb) (fun j u h => YChkA_keep hb j u h)
    · have h1 : x 1 = _ := hdep 1 rfl
      have h4 : x 4 = _ := hdep 4 rfl
      have h7 : x 7 = _ := hdep 7 rfl
      clear hdep
      simp only [h1, h4, h7] at hK
      go_simp
      exact hK _ _ (errs6_new W [e0, e1, e2] _) (below_alloc hW _) (fun j z h => YChkA_keep (below_alloc (Below.refl _ _) _) j z h)
    · have h8 : Errs6 W (x 8) [e0, e1, e2] := hdep 8 rfl
      clear hdep
      go_simp
      refine (h8.first (by simp)).mono ?_
      rintro e W' ⟨rfl, rfl⟩
      exact hK _ _ rfl hW (fun _ _ h => h)
    · have h9 : x 9 = _ := hdep 9 rfl
      clear hdep
      simp only [h9] at hK
      go_simp
      exact hK _ _ rfl hW (fun _ _ h => h)
  case fin =>
    intro x W hW hY
    have h10 : x 10 = .int .i64 (first6 [e0, e1, e2]) := hY 10 (by decide)
    clear hY
    have HAW := Lib.hid (HA.out.below hW)
    have HW := Lib.hid (below_next HB0.out hW)
    clear hW HK HN HH HA HB0
    rw [h10]
    clear h10
    generalize first6 [e0, e1, e2] = f0 at *
    by_cases h1 : s = 1
    · have hr : r = first6 [f0, e3] := by rw [HR.out, if_pos h1]
      subst h1
      have HR2 := Lib.hid hr
      clear hr HR
      have c0 := HAW.out.c0
      have c1 := HAW.out.c1
      have c2 := HAW.out.c2
      have c3 := HAW.out.c3
      have c4 := HAW.out.c4
      have HBW := HBR.out W HW.out
      rw [huv.out] at HBW
      go_wp2_with fail
      with_reducible refine HBW.mono ?_
      rintro e w2 ⟨rfl, hb⟩
      have HW2 := Lib.hid (below_next HW.out hb)
      clear hb c0 c1 c2 c3 c4 HBW HBR
      go_wp2_with fail
      with_reducible refine (HF2.out f0 e3 _).mono ?_
      rintro e w3 ⟨rfl, rfl⟩
      have hr := HR2.out
      rw [← hr]
      clear hr HR2
      go_wp2
      go_ret
      exact ⟨rfl, below_alloc HW2.out _⟩
    · have hr : r = first6 [f0, e4, e5, e6, e7] := by rw [HR.out, if_neg h1]
      have HR2 := Lib.hid hr
      have h1d : (s == 1) = false := by simpa using h1
      clear hr HR HBR h1
      go_wp2_with fail
      refine wp_region_inv (by kernel_rfl) (fun W' => Below W.heap.size W W') (YChkB w.heap.size u f0 e4 e5 e6 e7) ?F2 ?hF2 (by kernel_rfl) (by kernel_rfl) (below_drew (Below.refl _ _)) ?step2 ?fin2
      case hF2 =>
        intro x
        simp only [List.map_cons, List.map_nil, putL, Act.put, List.setIfInBounds_toArray, List.set_cons_zero, List.set_cons_succ, Nat.zero_add, Nat.reduceAdd]
        exact rfl
      case step2 =>
        refine ⟨?_, ?_, ?_, ?_, ?_, ?_, ?_, ?_, ?_, ?_, ?_, ?_, ?_, ?_, ?_, ?_, trivial⟩
        all_goals intro x W hW hdep K hK
        · clear hdep
          go_simp
          exact hK _ _ rfl hW (fun _ _ h => h)
        · clear hdep
          go_simp
          exact hK _ _ rfl hW (fun _ _ h => h)
        · have h1 : x 1 = _ := hdep 1 rfl
          have c2 := (HAW.out.below hW).c2
          clear hdep
          simp only [h1] at hK
          go_simp
          exact hK _ _ rfl hW (fun _ _ h => h)
        · have h2 : x 2 = _ := hdep 2 rfl
          clear hdep
          simp only [h2] at hK
          go_simp
          refine (HFO.out W (below_next HW.out hW)).mono ?_
          rintro e W' ⟨rfl, hb⟩
          exact hK _ _ rfl (below_next hW hb) (fun j u h => YChkB_keep hb j u h)
        · clear hdep
          go_simp
          exact hK _ _ rfl hW (fun _ _ h => h)
        · have h4 : x 4 = _ := hdep 4 rfl
          have c4 := (HAW.out.below hW).c4
          clear hdep
          simp only [h4] at hK
          go_simp
          exact hK _ _ rfl hW (fun _ _ h => h)
        · have h5 : x 5 = _ := hdep 5 rfl
          clear hdep
          simp only [h5] at hK
          go_simp
          refine (HFW.out W).mono ?_
          rintro e W' ⟨rfl, rfl⟩
          exact hK _ _ rfl hW (fun _ _ h => h)
        · clear hdep
          go_simp
          exact hK _ _ rfl hW (fun _ _ h => h)
        · have h7 : x 7 = _ := hdep 7 rfl
          have c4 := (HAW.out.below hW).c4
          clear hdep
          simp only [h7] at hK
          go_simp
          exact hK _ _ rfl hW (fun _ _ h => h)
        · have h8 : x 8 = _ := hdep 8 rfl
          clear hdep
          simp only [h8] at hK
          go_simp
          refine (HNS.out W (below_next HW.out hW)).mono ?_
          rintro e W' ⟨rfl, hb⟩
          exact hK _ _ rfl (below_next hW hb) (fun j u h => YChkB_keep hb j u h)
        · clear hdep
          go_simp
          exact hK _ _ rfl hW (fun _ _ h => h)
        · have h10 : x 10 = _ := hdep 10 rfl
          have c4 := (HAW.out.below hW).c4
          clear hdep
          simp only [h10] at hK
          go_simp
          exact hK _ _ rfl hW (fun _ _ h => h)
        · have h11 : x 11 = _ := hdep 11 rfl
          clear hdep
          simp only [h11] at hK
          go_simp
          refine (HRI.out W (below_next HW.out hW)).mono ?_
          rintro e W' ⟨rfl, hb⟩
          exact hK _ _ rfl (below_next hW hb) (fun j u h => YChkB_keep hb j u h)
        · have h0 : x 0 = _ := hdep 0 rfl
          have h3 : x 3 = _ := hdep 3 rfl
          have h6 : x 6 = _ := hdep 6 rfl
          have h9 : x 9 = _ := hdep 9 rfl
          have h12 : x 12 = _ := hdep 12 rfl
          clear hdep
          simp only [h0, h3, h6, h9, h12] at hK
          go_simp
          exact hK _ _ (errs6_new W [f0, e4, e5, e6, e7] _) (below_alloc hW _) (fun j z h => YChkB_keep (below_alloc (Below.refl _ _) _) j z h)
        · have h13 : Errs6 W (x 13) [f0, e4, e5, e6, e7] := hdep 13 rfl
          clear hdep
          go_simp
          refine (h13.first (by simp)).mono ?_
          rintro e W' ⟨rfl, rfl⟩
          exact hK _ _ rfl hW (fun _ _ h => h)
        · have h14 : x 14 = _ := hdep 14 rfl
          clear hdep
          simp only [h14] at hK
          go_simp
          exact hK _ _ rfl hW (fun _ _ h => h)
      case fin2 =>
        intro x W' hW' hY
        have h15 : x 15 = .int .i64 (first6 [f0, e4, e5, e6, e7]) := hY 15 (by decide)
        clear hY
        have HF := Lib.hid (below_next HW.out hW')
        clear hW' HW HAW HFO HFW HNS HRI
        rw [h15]
        have hr := HR2.out
        rw [← hr]
        clear hr HR2 h15
        go_wp2
        go_ret
        exact ⟨rfl, HF.out⟩
end Go.Proofs.YtclnkboejbnfnaaGreatDoor
