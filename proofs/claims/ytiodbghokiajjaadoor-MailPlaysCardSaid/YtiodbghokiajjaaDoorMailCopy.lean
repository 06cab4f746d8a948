/-
  Copy of the index: two maps that are cloned, in whatever order.
  Conditions: none.
-/
import Derived.Test.YtiodbghokiajjaaDoorMailDo
import Derived.Test.YtiodbghokiajjaaDoorShelf
namespace Go.Proofs.YtiodbghokiajjaaDoor
open Go.RowKit Go.Maps Go.Shelf

theorem cloned9_calls (p : Option Nat) (L : Row7) (w : World) (h : MapOr9 w p L) : Calls Tryd.prog 26 #[.map p] w fun e w' =>
    ∃ p', e = .returned (.map p') ∧ MapOr9 w' p' L ∧ p'.isSome = p.isSome ∧ (∀ b, p' = some b → w.heap.size ≤ b) ∧ Below w.heap.size w w' := by
  cases p with
  | none => exact (AnyW.maps_Clone_nil Tryd.clone7 w).mono fun e w' ⟨he, hw⟩ => ⟨none, he, ⟨fun _ => h.nil rfl, (fun _ h => nomatch h)⟩, rfl, (fun _ h => nomatch h), by rw [hw]; exact Below.refl _ _⟩
  | some b =>
    refine (AnyW.maps_Clone_owns Tryd.clone7 9 _ b _ _ w (h.map b rfl)).mono fun e w' ⟨he, h1, _, hb⟩ => ⟨_, he, ⟨(fun h => nomatch h), fun b' hb' => ?_⟩, rfl, fun b' hb' => ?_, hb⟩
    · cases hb'; exact h1
    · cases hb'; exact Nat.le_refl _

/-- An index apart, new since w. -/
def New9 (w W : World) (b : Nat) (p q : Option Nat) (L M : Row7) : Prop := Idx9 W b p q L M ∧ w.heap.size ≤ b ∧ (∀ c, p = some c → w.heap.size ≤ c) ∧ (∀ c, q = some c → w.heap.size ≤ c)
theorem New9.later {w W W' : World} {b : Nat} {p q : Option Nat} {L M : Row7} (h : New9 w W b p q L M) (hb : Below W.heap.size W W') : New9 w W' b p q L M := ⟨h.1.later hb, h.2⟩
theorem MapOr9.later {w w' : World} {p : Option Nat} {L : Row7} (h : MapOr9 w p L) (hb : Below w.heap.size w w') : MapOr9 w' p L := h.turns (Turns.of_below hb (fun _ => False)) (fun _ _ f => f)
theorem MapOr9.lt {w : World} {p : Option Nat} {L : Row7} (h : MapOr9 w p L) : ∀ b, p = some b → b < w.heap.size := fun b hb => (h.map b hb).lt

def YCp9 (B : Nat) (p q : Option Nat) : Nat → Value → Prop
  | 2, v => v = .pointer (some ⟨B, 0, none⟩)
  | 3, v => v = .map p
  | 7, v => v = .pointer (some ⟨B, 1, none⟩)
  | 8, v => v = .map q
  | 4, _ => True
  | 9, _ => True
  | 10, _ => True
  | 11, _ => True
  | 12, _ => True
  | _, v => v = .pointer (some ⟨B, 0, none⟩)
/-- A clone of the map p: p'. -/
def Cl9 (w W : World) (L : Row7) (s : Bool) (p' : Option Nat) : Prop := MapOr9 W p' L ∧ p'.isSome = s ∧ ∀ b, p' = some b → w.heap.size ≤ b
structure Cp9 (w : World) (B : Nat) (p q : Option Nat) (L M : Row7) (D : Nat → Bool) (x : Nat → Value) (W : World) : Prop where
  b : Below w.heap.size w W
  y : ∀ {j : Nat}, D j = true → YCp9 B p q j (x j)
  y4 : D 4 = true → ∃ p', x 4 = .map p' ∧ Cl9 w W L p.isSome p'
  y9 : D 9 = true → ∃ q', x 9 = .map q' ∧ Cl9 w W M q.isSome q'
  ne : D 4 = true → D 9 = true → ∀ p' q', x 4 = .map p' → x 9 = .map q' → ∀ b c, p' = some b → q' = some c → b ≠ c
  y10 : D 10 = true → ∃ p' q', x 10 = .agg #[.map p', .map q'] ∧ Cl9 w W L p.isSome p' ∧ Cl9 w W M q.isSome q' ∧ ∀ b c, p' = some b → q' = some c → b ≠ c
  y11 : D 11 = true → ∃ b p' q', x 11 = .pointer (some ⟨b, 0, none⟩) ∧ New9 w W b p' q' L M
  y12 : D 12 = true → ∃ b p' q', x 12 = .pointer (some ⟨b, 0, none⟩) ∧ New9 w W b p' q' L M
theorem Cl9.later {w W W' : World} {L : Row7} {s : Bool} {p' : Option Nat} (h : Cl9 w W L s p') (hb : Below W.heap.size W W') : Cl9 w W' L s p' := ⟨h.1.later hb, h.2⟩

section
variable {w W W' : World} {B : Nat} {p q : Option Nat} {L M : Row7} {D : Nat → Bool} {x : Nat → Value}
theorem upd_same {x : Nat → Value} {i : Nat} {v : Value} : upd x i v i = v := if_pos rfl
theorem upd_ne {x : Nat → Value} {i j : Nat} {v : Value} (h : j ≠ i) : upd x i v j = x j := if_neg h
theorem updL_ne {D : Nat → Bool} {i j : Nat} (h : j ≠ i) : updL D i j = D j := if_neg h
/-- One operation more; what it made is told apart. -/
theorem Cp9.more (h : Cp9 w B p q L M D x W) (i : Nat) (v : Value) (hb : Below W.heap.size W W') (hy : YCp9 B p q i v)
    (h4 : i = 4 → ∃ p', v = .map p' ∧ Cl9 w W' L p.isSome p' ∧ ∀ b, p' = some b → W.heap.size ≤ b) (h9 : i = 9 → ∃ q', v = .map q' ∧ Cl9 w W' M q.isSome q' ∧ ∀ b, q' = some b → W.heap.size ≤ b)
    (h10 : i = 10 → ∃ p' q', v = .agg #[.map p', .map q'] ∧ Cl9 w W' L p.isSome p' ∧ Cl9 w W' M q.isSome q' ∧ ∀ b c, p' = some b → q' = some c → b ≠ c)
    (h11 : i = 11 → ∃ b p' q', v = .pointer (some ⟨b, 0, none⟩) ∧ New9 w W' b p' q' L M) (h12 : i = 12 → ∃ b p' q', v = .pointer (some ⟨b, 0, none⟩) ∧ New9 w W' b p' q' L M) : Cp9 w B p q L M (updL D i) (upd x i v) W' := by
  refine ⟨below_next h.b hb, fun {j} hd => ?_, fun hd => ?_, fun hd => ?_, fun hd4 hd9 p' q' e4 e9 b c eb ec => ?_, fun hd => ?_, fun hd => ?_, fun hd => ?_⟩
  · by_cases e : j = i
    · subst e; rw [upd_same]; exact hy
    · rw [upd_ne e]; rw [updL_ne e] at hd; exact h.y hd
  · by_cases e : 4 = i
    · subst e; rw [upd_same]; obtain ⟨p', e1, e2, _⟩ := h4 rfl; exact ⟨p', e1, e2⟩
    · rw [upd_ne e]; rw [updL_ne e] at hd; obtain ⟨p', e1, e2⟩ := h.y4 hd; exact ⟨p', e1, e2.later hb⟩
  · by_cases e : 9 = i
    · subst e; rw [upd_same]; obtain ⟨p', e1, e2, _⟩ := h9 rfl; exact ⟨p', e1, e2⟩
    · rw [upd_ne e]; rw [updL_ne e] at hd; obtain ⟨p', e1, e2⟩ := h.y9 hd; exact ⟨p', e1, e2.later hb⟩
  · subst eb ec
    by_cases i4 : 4 = i
    · subst i4
      rw [upd_same] at e4
      rw [upd_ne (by decide)] at e9
      rw [updL_ne (by decide)] at hd9
      obtain ⟨p', e1, _, e3⟩ := h4 rfl
      obtain ⟨q', f1, f2⟩ := h.y9 hd9
      rw [e4] at e1; rw [e9] at f1
      injection e1 with e1; injection f1 with f1
      have := e3 b e1.symm
      have := f2.1.lt c f1.symm
      omega
    · by_cases i9 : 9 = i
      · subst i9
        rw [upd_same] at e9
        rw [upd_ne (by decide)] at e4
        rw [updL_ne (by decide)] at hd4
        obtain ⟨q', e1, _, e3⟩ := h9 rfl
        obtain ⟨p', f1, f2⟩ := h.y4 hd4
        rw [e9] at e1; rw [e4] at f1
        injection e1 with e1; injection f1 with f1
        have := e3 c e1.symm
        have := f2.1.lt b f1.symm
        omega
      · rw [upd_ne i4] at e4; rw [upd_ne i9] at e9; rw [updL_ne i4] at hd4; rw [updL_ne i9] at hd9
        exact h.ne hd4 hd9 _ _ e4 e9 b c rfl rfl
  · by_cases e : 10 = i
    · subst e; rw [upd_same]; exact h10 rfl
    · rw [upd_ne e]; rw [updL_ne e] at hd; obtain ⟨p', q', e1, e2, e3, e4⟩ := h.y10 hd; exact ⟨p', q', e1, e2.later hb, e3.later hb, e4⟩
  · by_cases e : 11 = i
    · subst e; rw [upd_same]; exact h11 rfl
    · rw [upd_ne e]; rw [updL_ne e] at hd; obtain ⟨b, p', q', e1, e2⟩ := h.y11 hd; exact ⟨b, p', q', e1, e2.later hb⟩
  · by_cases e : 12 = i
    · subst e; rw [upd_same]; exact h12 rfl
    · rw [upd_ne e]; rw [updL_ne e] at hd; obtain ⟨b, p', q', e1, e2⟩ := h.y12 hd; exact ⟨b, p', q', e1, e2.later hb⟩
theorem Cp9.quiet (h : Cp9 w B p q L M D x W) (i : Nat) {v : Value} (hy : YCp9 B p q i v) (hi : [4, 9, 10, 11, 12].contains i = false := by rfl) : Cp9 w B p q L M (updL D i) (upd x i v) W :=
  h.more i v (Below.refl _ _) hy (fun e => by subst e; cases hi) (fun e => by subst e; cases hi) (fun e => by subst e; cases hi) (fun e => by subst e; cases hi) (fun e => by subst e; cases hi)
theorem Cp9.at4 (h : Cp9 w B p q L M D x W) {p' : Option Nat} (hm : MapOr9 W' p' L) (hs : p'.isSome = p.isSome) (hz : ∀ b, p' = some b → W.heap.size ≤ b) (hb : Below W.heap.size W W') : Cp9 w B p q L M (updL D 4) (upd x 4 (.map p')) W' :=
  h.more 4 _ hb trivial (fun _ => ⟨p', rfl, ⟨hm, hs, fun b e => Nat.le_trans h.b.size (hz b e)⟩, hz⟩) (fun e => absurd e (by decide)) (fun e => absurd e (by decide)) (fun e => absurd e (by decide)) (fun e => absurd e (by decide))
theorem Cp9.at9 (h : Cp9 w B p q L M D x W) {q' : Option Nat} (hm : MapOr9 W' q' M) (hs : q'.isSome = q.isSome) (hz : ∀ b, q' = some b → W.heap.size ≤ b) (hb : Below W.heap.size W W') : Cp9 w B p q L M (updL D 9) (upd x 9 (.map q')) W' :=
  h.more 9 _ hb trivial (fun e => absurd e (by decide)) (fun _ => ⟨q', rfl, ⟨hm, hs, fun b e => Nat.le_trans h.b.size (hz b e)⟩, hz⟩) (fun e => absurd e (by decide)) (fun e => absurd e (by decide)) (fun e => absurd e (by decide))
theorem Cp9.at10 (h : Cp9 w B p q L M D x W) {v : Value} (hv : ∃ p' q', v = .agg #[.map p', .map q'] ∧ Cl9 w W L p.isSome p' ∧ Cl9 w W M q.isSome q' ∧ ∀ b c, p' = some b → q' = some c → b ≠ c) : Cp9 w B p q L M (updL D 10) (upd x 10 v) W :=
  h.more 10 v (Below.refl _ _) trivial (fun e => absurd e (by decide)) (fun e => absurd e (by decide)) (fun _ => hv) (fun e => absurd e (by decide)) (fun e => absurd e (by decide))
theorem Cp9.at11 (h : Cp9 w B p q L M D x W) {p' q' : Option Nat} (hp : Cl9 w W L p.isSome p') (hq : Cl9 w W M q.isSome q') (hne : ∀ b c, p' = some b → q' = some c → b ≠ c) {w1 : World} (hr : Idx9 w1 B p q L M) :
    Cp9 w B p q L M (updL D 11) (upd x 11 (.pointer (some ⟨W.heap.size, 0, none⟩))) (W.alloc (.cells #[.map p', .map q'] 54)) := by
  have hb := below_alloc (Below.refl W.heap.size W) (.cells #[.map p', .map q'] 54)
  refine h.more 11 _ hb trivial (fun e => absurd e (by decide)) (fun e => absurd e (by decide)) (fun e => absurd e (by decide)) (fun _ => ⟨_, p', q', rfl, ⟨(MapKept.heap_alloc W _).1, hp.1.later hb, hq.1.later hb, ?_, hne, hr.mir, hr.few, hr.all⟩, h.b.size, hp.2.2, hq.2.2⟩) (fun e => absurd e (by decide))
  rw [hp.2.1, hq.2.1, hr.both]
theorem Cp9.at12 (h : Cp9 w B p q L M D x W) {v : Value} (hv : ∃ b p' q', v = .pointer (some ⟨b, 0, none⟩) ∧ New9 w W b p' q' L M) : Cp9 w B p q L M (updL D 12) (upd x 12 v) W :=
  h.more 12 v (Below.refl _ _) trivial (fun e => absurd e (by decide)) (fun e => absurd e (by decide)) (fun e => absurd e (by decide)) (fun e => absurd e (by decide)) (fun _ => hv)
theorem Cp9.start (w : World) (x : Nat → Value) : Cp9 w B p q L M (fun _ => false) x w.drew :=
  ⟨below_drew (Below.refl _ _), (fun {_} h => nomatch h), (fun h => nomatch h), (fun h => nomatch h), (fun h _ => nomatch h), (fun h => nomatch h), (fun h => nomatch h), (fun h => nomatch h)⟩
end

/-- An index of its own, apart from all that was there. -/
def Apart9 (L : Row7) (w : World) (e : Ending) (w' : World) : Prop := ∃ b p q M, e = .returned (.pointer (some ⟨b, 0, none⟩)) ∧ New9 w w' b p q L M ∧ Below w.heap.size w w'

set_option maxRecDepth 100000 in
set_option maxHeartbeats 2000000 in
theorem copy9_calls (B : Nat) (p q : Option Nat) (L M : Row7) (w : World) (h : Idx9 w B p q L M) : Calls Tryd.prog 14 #[.pointer (some ⟨B, 0, none⟩)] w (Apart9 L w) := by
  have HR := Lib.hid h
  clear h
  go_enter Tryd.func14, Tryd.ntmps14
  go_wp2_with fail
  refine wp_region_gen (by kernel_rfl) (Cp9 w B p q L M) ?F ?hF (by kernel_rfl) (by kernel_rfl) (fun x => Cp9.start w x) ?step ?fin
  case hF =>
    intro x
    simp only [List.map_cons, List.map_nil, putL, Act.put, List.setIfInBounds_toArray, List.set_cons_zero, List.set_cons_succ, Nat.zero_add, Nat.reduceAdd]
    exact rfl
  case step =>
    refine ⟨?_, ?_, ?_, ?_, ?_, ?_, ?_, ?_, ?_, ?_, ?_, ?_, ?_, trivial⟩
    · intro D x W hi hd hI K hK
      clear hd
      go_simp
      exact hK _ _ (hI.quiet 0 rfl)
    · intro D x W hi hd hI K hK
      have h0 : x 0 = _ := hI.y (hd 0 rfl)
      clear hd
      simp only [h0] at hK
      go_simp
      exact hK _ _ (hI.quiet 1 rfl)
    · intro D x W hi hd hI K hK
      have h1 : x 1 = _ := hI.y (hd 1 rfl)
      clear hd
      simp only [h1] at hK
      go_simp
      exact hK _ _ (hI.quiet 2 rfl)
    · intro D x W hi hd hI K hK
      have h2 : x 2 = _ := hI.y (hd 2 rfl)
      have c := (HR.out.later hI.b).cell0
      clear hd
      simp only [h2] at hK
      go_simp
      exact hK _ _ (hI.quiet 3 rfl)
    · intro D x W hi hd hI K hK
      have h3 : x 3 = _ := hI.y (hd 3 rfl)
      have hc := cloned9_calls _ _ W (HR.out.later hI.b).mapp
      clear hd
      simp only [h3] at hK
      go_simp
      refine hc.mono ?_
      rintro e W' ⟨p', rfl, hm, hs, hz, hb⟩
      exact hK _ _ (hI.at4 hm hs hz hb)
    · intro D x W hi hd hI K hK
      clear hd
      go_simp
      exact hK _ _ (hI.quiet 5 rfl)
    · intro D x W hi hd hI K hK
      have h5 : x 5 = _ := hI.y (hd 5 rfl)
      clear hd
      simp only [h5] at hK
      go_simp
      exact hK _ _ (hI.quiet 6 rfl)
    · intro D x W hi hd hI K hK
      have h6 : x 6 = _ := hI.y (hd 6 rfl)
      clear hd
      simp only [h6] at hK
      go_simp
      exact hK _ _ (hI.quiet 7 rfl)
    · intro D x W hi hd hI K hK
      have h7 : x 7 = _ := hI.y (hd 7 rfl)
      have c := (HR.out.later hI.b).cell1
      clear hd
      simp only [h7] at hK
      go_simp
      exact hK _ _ (hI.quiet 8 rfl)
    · intro D x W hi hd hI K hK
      have h8 : x 8 = _ := hI.y (hd 8 rfl)
      have hc := cloned9_calls _ _ W (HR.out.later hI.b).mapq
      clear hd
      simp only [h8] at hK
      go_simp
      refine hc.mono ?_
      rintro e W' ⟨p', rfl, hm, hs, hz, hb⟩
      exact hK _ _ (hI.at9 hm hs hz hb)
    · intro D x W hi hd hI K hK
      obtain ⟨p', h4, hp'⟩ := hI.y4 (hd 4 rfl)
      obtain ⟨q', h9, hq'⟩ := hI.y9 (hd 9 rfl)
      have hne := hI.ne (hd 4 rfl) (hd 9 rfl) p' q' h4 h9
      clear hd
      simp only [h4, h9] at hK
      go_simp
      exact hK _ _ (hI.at10 ⟨p', q', rfl, hp', hq', hne⟩)
    · intro D x W hi hd hI K hK
      obtain ⟨p', q', h10, hp', hq', hne⟩ := hI.y10 (hd 10 rfl)
      clear hd
      simp only [h10] at hK
      go_simp
      exact hK _ _ (hI.at11 hp' hq' hne HR.out)
    · intro D x W hi hd hI K hK
      obtain ⟨b, p', q', h11, hz⟩ := hI.y11 (hd 11 rfl)
      clear hd
      simp only [h11] at hK
      go_simp
      exact hK _ _ (hI.at12 ⟨b, p', q', rfl, hz⟩)
  case fin =>
    intro D x W hall hI
    obtain ⟨b, p', q', h12, hz⟩ := hI.y12 (hall 12 (by decide))
    have HZ : Hid (Apart9 L w (.returned (.pointer (some ⟨b, 0, none⟩))) W) := ⟨b, p', q', M, rfl, hz, hI.b⟩
    clear hI hall hz HR
    rw [h12]
    go_wp2
    go_ret
    exact HZ.out
end Go.Proofs.YtiodbghokiajjaaDoor
