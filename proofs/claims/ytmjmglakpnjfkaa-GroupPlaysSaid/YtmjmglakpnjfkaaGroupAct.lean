/-
  A deed of the law, of both: the code's groups and the document's rows go on alike.
  Conditions: texts of at most 50 bytes; rows of at most 800.
-/
import Derived.Test.YtmjmglakpnjfkaaGroupRefN
import Derived.Test.YtmjmglakpnjfkaaGen
namespace Go.Proofs.Ytmjmglakpnjfkaa
open Go.RowKit Go.Maps
set_option linter.unusedVariables false

section
variable {S : Grs10} {N : List (List UInt8)} {M : List Who10} {k : Nat}
theorem dmaE_eq (h : Rel10 S N M) (g : List UInt8) : dmaE N g = maE10 S g := by
  unfold dmaE maE10
  rw [h.has, h.len]
theorem ddrE_eq (h : Rel10 S N M) (g : List UInt8) : ddrE N g = drE10 S g := by
  unfold ddrE drE10 findE10
  rw [h.has]
  simp
theorem djoE_eq (h : Rel10 S N M) (g n : List UInt8) : djoE N M g n = joE10 S g n := by
  unfold djoE joE10 findE10
  rw [h.has, h.isin]
  simp only [List.all_cons, List.all_nil, Bool.and_true]
  cases name5 g && name5 n <;> cases hasV S g <;> simp
theorem dleE_eq (h : Rel10 S N M) (g n : List UInt8) : dleE N M g n = leE10 S g n := by
  unfold dleE leE10 findE10
  rw [h.has, h.isin]
  simp only [List.all_cons, List.all_nil, Bool.and_true]
  cases name5 g && name5 n <;> cases hasV S g <;> simp
theorem dreE_eq (h : Rel10 S N M) (hr : RiseV S) (o n : List UInt8) : dreE M o n = reE10 S o n := by
  unfold dreE reE10
  rw [h.of_ hr]
theorem rel_make (h : Rel10 S N M) (hg : Good10 S k) (g : List UInt8) : Rel10 (maS10 S g) (dmaN N g) M := by
  by_cases e : maE10 S g = 0
  · unfold dmaN
    rw [dmaE_eq h, if_pos e]
    exact h.make hg e
  · unfold dmaN maS10
    rw [dmaE_eq h, if_neg e, if_neg e]
    exact h
theorem rel_drop (h : Rel10 S N M) (hg : Good10 S k) (g : List UInt8) : Rel10 (drS10 S g) (ddrN N g) (ddrM N M g) := by
  by_cases e : drE10 S g = 0
  · unfold ddrN ddrM
    rw [ddrE_eq h, if_pos e, if_pos e]
    exact h.drop hg e
  · unfold ddrN ddrM drS10
    rw [ddrE_eq h, if_neg e, if_neg e, if_neg e]
    exact h
theorem rel_join (h : Rel10 S N M) (hg : Good10 S k) (g n : List UInt8) : Rel10 (joS10 S g n) N (djoM N M g n) := by
  by_cases e : joE10 S g n = 0
  · unfold djoM
    rw [djoE_eq h, if_pos e]
    exact h.join hg e
  · unfold djoM joS10
    rw [djoE_eq h, if_neg e, if_neg e]
    exact h
theorem rel_leave (h : Rel10 S N M) (hg : Good10 S k) (g n : List UInt8) : Rel10 (leS10 S g n) N (dleM N M g n) := by
  by_cases e : leE10 S g n = 0
  · unfold dleM
    rw [dleE_eq h, if_pos e]
    exact h.leave hg e
  · unfold dleM leS10
    rw [dleE_eq h, if_neg e, if_neg e]
    exact h
theorem rel_rename (h : Rel10 S N M) (hg : Good10 S k) (o n : List UInt8) : Rel10 (reS10 S o n) N (dreM M o n) := by
  by_cases e : reE10 S o n = 0
  · unfold dreM
    rw [dreE_eq h hg.rise, if_pos e]
    exact h.rename hg e
  · unfold dreM reS10
    rw [dreE_eq h hg.rise, if_neg e, if_neg e]
    exact h
theorem drop_le (M : List Who10) (g : List UInt8) : (dropM M g).length ≤ M.length := List.length_filter_le _ _
theorem Rel10.six (h : Rel10 S N M) (hg : Good10 S k) : N.length ≤ 6 := by rw [h.len]; exact hg.few
end

/-- An act's block. -/
def ActAt10 (W : World) (b kd : Nat) (x y : ByteArray) : Prop := W.heap[b]? = some (.cells #[.int .u8 (kd : Int), .string x, .string y] 32 (0, 0))
section
variable {W W' : World} {b kd : Nat} {x y : ByteArray}
theorem ActAt10.c0 (h : ActAt10 W b kd x y) : W.cell? ⟨b, 0, none⟩ = some (.int .u8 (kd : Int)) := by unfold ActAt10 at h; simp [World.cell?, h]
theorem ActAt10.c1 (h : ActAt10 W b kd x y) : W.cell? ⟨b, 1, none⟩ = some (.string x) := by unfold ActAt10 at h; simp [World.cell?, h]
theorem ActAt10.c2 (h : ActAt10 W b kd x y) : W.cell? ⟨b, 2, none⟩ = some (.string y) := by unfold ActAt10 at h; simp [World.cell?, h]
theorem ActAt10.keeps (h : ActAt10 W b kd x y) (hk : Keeps10 W W') : ActAt10 W' b kd x y := hk _ _ _ _ h (by decide)
theorem ActAt10.keepG (h : ActAt10 W b kd x y) (hk : KeepG W W') : ActAt10 W' b kd x y := hk _ _ _ _ h (by decide)
theorem ActAt10.later (h : ActAt10 W b kd x y) (hb : Below W.heap.size W W') : ActAt10 W' b kd x y := h.keeps (Keeps10.of_below hb)
theorem actat10_new (W : World) (kd : Nat) (x y : ByteArray) : ActAt10 (W.alloc (.cells #[.int .u8 (kd : Int), .string x, .string y] 32)) W.heap.size kd x y := (MapKept.heap_alloc W _).1
theorem Bx10.keeps {v1 v2 : Value} (h : Bx10 W b v1 v2) (hk : Keeps10 W W') : Bx10 W' b v1 v2 := hk _ _ _ _ h (by decide)
end
theorem Own10.cell {w0 W : World} {B c i k : Nat} {S : Grs10} {v1 v2 : Value} (h : Own10 w0 W B S k) (hc : Bx10 W c v1 v2) (h0 : w0.heap.size ≤ c) (x : Value) : Own10 w0 (W.setCell ⟨c, i, none⟩ x) B S k := by
  obtain ⟨p, T, hd, hS, hg, hb⟩ := h
  have hc' : W.heap[c]? = some (.cells #[v1, v2] TG (0, 0)) := hc
  have ht : Turns (fun j => j = c) W (W.setCell ⟨c, i, none⟩ x) := (Turns.refl (fun j => j = c) W).setCell (p := ⟨c, i, none⟩) (fun _ => rfl) x
  refine ⟨p, T, ⟨hd.1.turns ht (fun e => ?_) (fun b hb' e => ?_) (fun y hy e => ?_), hd.2⟩, hS, hg, Below.cellG hb h0 x⟩
  · have := hd.1.blk
    rw [e, hc'] at this
    injection this with this
    injection this with _ this
    exact absurd this (by decide)
  · exact map_ne_cells10 (hd.1.map b hb') hc' e
  · exact map_ne_cells10 (hd.1.sets y hy) hc' e
/-- A deed under way: what has been done of both. -/
structure Ac10 (w0 W1 : World) (B b5 b6 b8 : Nat) (S S' : Grs10) (k kd : Nat) (a b : ByteArray) (u1 u2 : Value) (N' : List (List UInt8)) (M' : List Who10) (dc dr : Bool) (W : World) : Prop where
  own : Own10 w0 W B (if dc then S' else S) (if dc then k + 1 else k)
  res : Bx10 W b6 (if dr then u1 else .slice none 0 0) (if dr then u2 else .slice none 0 0)
  var : Bx10 W b8 u1 u2
  act : ActAt10 W b5 kd a b
  nm : NmR W u1 N'
  mb : MbR W u2 M'
  keep : Keeps10 W1 W
section
variable {w0 W1 W W' : World} {B b5 b6 b8 k kd : Nat} {S S' : Grs10} {a b : ByteArray} {u1 u2 : Value} {N' : List (List UInt8)} {M' : List Who10} {dc dr : Bool}
theorem Ac10.deed (h : Ac10 w0 W1 B b5 b6 b8 S S' k kd a b u1 u2 N' M' false dr W) (ho : Own10 w0 W' B S' (k + 1)) (hk : Keeps10 W W') : Ac10 w0 W1 B b5 b6 b8 S S' k kd a b u1 u2 N' M' true dr W' :=
  ⟨ho, h.res.keeps hk, h.var.keeps hk, h.act.keeps hk, h.nm.keeps hk, h.mb.keeps hk, h.keep.trans hk⟩
theorem Keeps10.cellN {c i : Nat} (h : Keeps10 W1 W) (hc : W1.heap.size ≤ c) (x : Value) : Keeps10 W1 (W.setCell ⟨c, i, none⟩ x) := fun j cs T fr hj hT => by
  have hl := (Array.getElem?_eq_some_iff.1 hj).1
  have hne : j ≠ c := by omega
  exact (Below.heap_setCell _ _ _ _ hne).trans (h j cs T fr hj hT)
theorem Ac10.stored (h : Ac10 w0 W1 B b5 b6 b8 S S' k kd a b u1 u2 N' M' dc false W) (h0 : w0.heap.size ≤ b6) (h1 : W1.heap.size ≤ b6) (hne : b8 ≠ b6) :
    Ac10 w0 W1 B b5 b6 b8 S S' k kd a b u1 u2 N' M' dc true ((W.setCell ⟨b6, 0, none⟩ u1).setCell ⟨b6, 1, none⟩ u2) := by
  have hr : Bx10 W b6 (.slice none 0 0) (.slice none 0 0) := h.res
  have hk : KeepG W ((W.setCell ⟨b6, 0, none⟩ u1).setCell ⟨b6, 1, none⟩ u2) := (hr.keep 0 u1).trans ((hr.set0 u1).keep 1 u2)
  exact ⟨(h.own.cell hr h0 u1).cell (hr.set0 u1) h0 u2, (hr.set0 u1).set1 u2, (h.var.other hne u1).other hne u2, h.act.keepG hk, h.nm.keepG hk, h.mb.keepG hk, (h.keep.cellN h1 u1).cellN h1 u2⟩
end
def YA10 (B b5 : Nat) (u1 u2 : Value) (a b : ByteArray) (E : Int) (dbl : Bool) (j : Nat) (v : Value) : Prop :=
  if j = 0 then v = .agg #[u1, u2] else if j = 1 then v = .pointer (some ⟨B, 0, none⟩) else if j = 2 then v = .pointer (some ⟨b5, 1, none⟩) else if j = 3 then v = .string a else
  if dbl then (if j = 4 then v = .pointer (some ⟨b5, 2, none⟩) else if j = 5 then v = .string b else if j = 6 then v = .int .i64 E else if j = 7 then v = .int .i64 E else if j = 8 then v = .bool true else if j = 9 then True else v = .bool true)
  else (if j = 4 then v = .int .i64 E else if j = 5 then v = .int .i64 E else if j = 6 then v = .bool true else if j = 7 then True else v = .bool true)
def YA10W (B b5 : Nat) (u1 u2 : Value) (a b : ByteArray) (E : Int) (dbl : Bool) (j : Nat) (v : Value) (_ : World) : Prop := YA10 B b5 u1 u2 a b E dbl j v

/-- What a deed of both comes to. -/
def Did10 (w0 : World) (B : Nat) (k : Nat) (M : List Who10) (W : World) (e : Ending) (w' : World) : Prop :=
  ∃ S' N' M' u1 u2, e = .returned (.tuple #[.agg #[u1, u2], .bool true]) ∧ Own10 w0 w' B S' (k + 1) ∧ NmR w' u1 N' ∧ MbR w' u2 M' ∧ Rel10 S' N' M' ∧ M'.length ≤ M.length + 1 ∧ Keeps10 W w'

def GA10 (w0 W1 : World) (B b5 b6 b8 : Nat) (S S' : Grs10) (k kd : Nat) (a b : ByteArray) (u1 u2 : Value) (N' : List (List UInt8)) (M' : List Who10) (ce cr : Nat) (L : Nat → Bool) (W : World) : Prop := Ac10 w0 W1 B b5 b6 b8 S S' k kd a b u1 u2 N' M' (L ce) (L cr) W
theorem GA10.quiet {w0 W1 W : World} {B b5 b6 b8 k kd : Nat} {S S' : Grs10} {a b : ByteArray} {u1 u2 : Value} {N' : List (List UInt8)} {M' : List Who10} {ce cr : Nat} {L : Nat → Bool} (h : GA10 w0 W1 B b5 b6 b8 S S' k kd a b u1 u2 N' M' ce cr L W) (i : Nat) (h1 : ce ≠ i) (h2 : cr ≠ i) : GA10 w0 W1 B b5 b6 b8 S S' k kd a b u1 u2 N' M' ce cr (updL L i) W := by
  unfold GA10 at *
  rw [show updL L i ce = L ce from if_neg h1, show updL L i cr = L cr from if_neg h2]
  exact h
theorem Ac10.drew {w0 W1 W : World} {B b5 b6 b8 k kd : Nat} {S S' : Grs10} {a b : ByteArray} {u1 u2 : Value} {N' : List (List UInt8)} {M' : List Who10} {dc dr : Bool} (h : Ac10 w0 W1 B b5 b6 b8 S S' k kd a b u1 u2 N' M' dc dr W) : Ac10 w0 W1 B b5 b6 b8 S S' k kd a b u1 u2 N' M' dc dr W.drew :=
  ⟨h.own.later (below_drew (Below.refl _ _)), h.res, h.var, h.act, h.nm, h.mb, h.keep⟩

set_option maxRecDepth 100000 in
set_option maxHeartbeats 8000000 in
theorem do10_0 (w0 : World) (B : Nat) (S : Grs10) (k : Nat) (v1 v2 : Value) (N : List (List UInt8)) (M : List Who10) (kd : Nat) (a b : ByteArray) (W : World) (hO : Own10 w0 W B S k) (hk9 : k ≤ 800) (h1 : NmR W v1 N) (h2 : MbR W v2 M) (hRel : Rel10 S N M) (hM : M.length ≤ 900) (ha : a.size ≤ 50) (hb5 : b.size ≤ 50) (hkd : kd % 7 = 0) :
    Calls Try.prog 9 #[.pointer (some ⟨B, 0, none⟩), .agg #[v1, v2], .agg #[.int .u8 (kd : Int), .string a, .string b]] W (Did10 w0 B k M W) := by
  have hGood := hO.good
  have hN : N.length ≤ 900 := Nat.le_trans (hRel.six hGood) (by decide)
  have hrem : (kd : Int).tmod 7 = 0 := by
    have : (kd : Int).tmod 7 = ((kd % 7 : Nat) : Int) := rfl
    rw [this, hkd]; rfl
  have hRel2 : Hid (Rel10 (maS10 S a.data.toList) (dmaN N a.data.toList) (M)) := rel_make hRel hGood _
  have hML : Hid ((M).length ≤ M.length + 1) := Nat.le_succ _
  have HEC : Hid (dmaE N a.data.toList = (maE10 S a.data.toList : Int)) := dmaE_eq hRel _
  have HRF : Hid (∀ W', Below W.heap.size W W' → Calls Try.prog 23 #[.agg #[v1, v2], .string a] W' (Doc10 (dmaE N a.data.toList) (dmaN N a.data.toList) (M) W')) := fun W' hb => by
    have h1' := h1.later hb
    have h2' := h2.later hb
    revert h1' h2'
    generalize W' = W
    intro h1' h2'
    exact rmake10_calls v1 v2 N M a W hN (by omega) h1' h2'
  have HDO : Hid (∀ W', Own10 w0 W' B S k → Calls Try.prog 20 #[.pointer (some ⟨B, 0, none⟩), .string a] W' fun e w' => e = .returned (.int .i64 (dmaE N a.data.toList)) ∧ Own10 w0 w' B (maS10 S a.data.toList) (k + 1) ∧ Keeps10 W' w') := fun W' h => by
    rw [HEC.out]
    exact (h.make a (by omega)).mono fun e w' ⟨he, ho, hk⟩ => ⟨he, ho.mono (Nat.le_succ _), hk⟩
  obtain ⟨A1, c1, rfl⟩ := h1.shape
  obtain ⟨A, c, rfl⟩ := h2.shape
  have hb4 : Below W.heap.size W (W.alloc (.cells #[.slice A1 N.length c1, .slice A M.length c] TG)) := below_alloc (Below.refl _ _) _
  have hb45 := below_next hb4 (below_alloc (Below.refl (W.alloc (.cells #[.slice A1 N.length c1, .slice A M.length c] TG)).heap.size (W.alloc (.cells #[.slice A1 N.length c1, .slice A M.length c] TG))) (.cells #[.int .u8 (kd : Int), .string a, .string b] 32))
  have hac := actat10_new (W.alloc (.cells #[.slice A1 N.length c1, .slice A M.length c] TG)) kd a b
  rw [World.size_alloc] at hac
  have hbx := bx10_new ((W.alloc (.cells #[.slice A1 N.length c1, .slice A M.length c] TG)).alloc (.cells #[.int .u8 (kd : Int), .string a, .string b] 32)) (.slice none 0 0) (.slice none 0 0)
  rw [World.size_alloc, World.size_alloc] at hbx
  have hb6 := below_alloc (Below.refl ((W.alloc (.cells #[.slice A1 N.length c1, .slice A M.length c] TG)).alloc (.cells #[.int .u8 (kd : Int), .string a, .string b] 32)).heap.size ((W.alloc (.cells #[.slice A1 N.length c1, .slice A M.length c] TG)).alloc (.cells #[.int .u8 (kd : Int), .string a, .string b] 32))) (.cells #[.slice none 0 0, .slice none 0 0] TG)
  have hac6 := hac.later hb6
  have hb46 := below_next hb45 hb6
  have hv4 := (bx10_new W (.slice A1 N.length c1) (.slice A M.length c)).later ((below_next (below_alloc (Below.refl _ _) _) hb6))
  have HV4 := Lib.hid hv4
  have HAC := Lib.hid hac6
  have HBX := Lib.hid hbx
  have HB1 := Lib.hid hb46
  have HOW := Lib.hid (hO.later hb46)
  have HW0 : Hid (w0.heap.size ≤ W.heap.size) := hO.below.size
  have HSZ : Hid ((((W.alloc (.cells #[.slice A1 N.length c1, .slice A M.length c] TG)).alloc (.cells #[.int .u8 (kd : Int), .string a, .string b] 32)).alloc (.cells #[.slice none 0 0, .slice none 0 0] TG)).heap.size = W.heap.size + 3) := by show _ = _; simp
  clear hv4 hac hac6 hbx hb4 hb45 hb6 hb46 hO h1 h2 hRel hGood hkd
  generalize (dmaE N a.data.toList) = E at *
  generalize (maS10 S a.data.toList) = S2v at *
  generalize (dmaN N a.data.toList) = N2v at *
  clear HEC
  go_enter Try.func9, Try.ntmps9
  go_wp2_with fail
  generalize ((W.alloc (.cells #[.slice A1 N.length c1, .slice A M.length c] TG)).alloc (.cells #[.int .u8 (kd : Int), .string a, .string b] 32)).alloc (.cells #[.slice none 0 0, .slice none 0 0] TG) = w1 at *
  have HRW := Lib.hid (HRF.out w1 HB1.out)
  clear HRF
  with_reducible refine HRW.out.mono ?_
  rintro e w2 ⟨u1, u2, rfl, hu1, hu2, hb2⟩
  obtain ⟨AU1, CU1, rfl⟩ := hu1.shape
  obtain ⟨AU2, CU2, rfl⟩ := hu2.shape
  have hb8 : Below w2.heap.size w2 (w2.alloc (.cells #[.slice AU1 N2v.length CU1, .slice AU2 M.length CU2] TG)) := below_alloc (Below.refl _ _) _
  have hb28 := below_next hb2 hb8
  have HAG : Hid (Ac10 w0 W B (W.heap.size + 1) (W.heap.size + 2) w2.heap.size S S2v k kd a b (.slice AU1 N2v.length CU1) (.slice AU2 M.length CU2) N2v M false false (w2.alloc (.cells #[.slice AU1 N2v.length CU1, .slice AU2 M.length CU2] TG))) :=
    ⟨HOW.out.later hb28, HBX.out.later hb28, bx10_new _ _ _, HAC.out.later hb28, hu1.later hb8, hu2.later hb8, Keeps10.of_below (below_next HB1.out hb28)⟩
  have HNE : Hid (w2.heap.size ≠ W.heap.size + 2) := by have := HSZ.out; have := hb2.size; show w2.heap.size ≠ _; omega
  have HS1 : Hid (W.heap.size ≤ W.heap.size + 2) := by show W.heap.size ≤ _; omega
  have HS6 : Hid (w0.heap.size ≤ W.heap.size + 2) := Nat.le_trans HW0.out (by omega)
  have hl5 : W.heap.size + 1 < w2.heap.size := by have := HSZ.out; have := hb2.size; omega
  have y1 := (HAC.out.later hb2).c1
  have y2 := (HAC.out.later hb2).c2
  clear hb2 hb8 hb28 hu1 hu2 HRW HBX HAC HOW HV4 HSZ
  go_wp2_with fail
  generalize w2.alloc (.cells #[.slice AU1 N2v.length CU1, .slice AU2 M.length CU2] TG) = w3 at *
  refine wp_region_st2 (by kernel_rfl) (YA10W B (W.heap.size + 1) (.slice AU1 N2v.length CU1) (.slice AU2 M.length CU2) a b E false) (GA10 w0 W B (W.heap.size + 1) (W.heap.size + 2) w2.heap.size S S2v k kd a b (.slice AU1 N2v.length CU1) (.slice AU2 M.length CU2) N2v M 4 7) ?F ?hF (by kernel_rfl) (by kernel_rfl) HAG.out.drew ?step ?fin
  case hF =>
    intro x
    simp only [List.map_cons, List.map_nil, putL, Act.put, List.setIfInBounds_toArray, List.set_cons_zero, List.set_cons_succ, Nat.zero_add, Nat.reduceAdd]
    exact rfl
  case step =>
    refine ⟨?_, ?_, ?_, ?_, ?_, ?_, ?_, ?_, ?_, trivial⟩
    all_goals intro L x W hL0 hd0 hG hdep K hK
    · have z0 := hG.var.c0
      have z1 := hG.var.c1
      clear hdep
      go_simp
      exact hK _ _ rfl (hG.quiet 0 (by decide) (by decide)) (fun _ _ h => h)
    · clear hdep
      go_simp
      exact hK _ _ rfl (hG.quiet 1 (by decide) (by decide)) (fun _ _ h => h)
    · clear hdep
      go_simp
      exact hK _ _ rfl (hG.quiet 2 (by decide) (by decide)) (fun _ _ h => h)
    · have h2 : x 2 = _ := hdep 2 rfl
      have y1 := hG.act.c1
      clear hdep
      simp only [h2] at hK
      go_simp
      exact hK _ _ rfl (hG.quiet 3 (by decide) (by decide)) (fun _ _ h => h)
    · have h1 : x 1 = _ := hdep 1 rfl
      have h3 : x 3 = _ := hdep 3 rfl
      have hL : L 4 = false := hL0
      have hG1 := hG
      unfold GA10 at hG1
      rw [hL] at hG1
      have HDD := Lib.hid (HDO.out W hG1.own)
      clear hdep
      simp only [h1, h3] at hK
      go_simp
      refine HDD.out.mono ?_
      rintro e W' ⟨rfl, ho, hk⟩
      exact hK _ _ rfl (by unfold GA10; rw [show updL L 4 4 = true from if_pos rfl, show updL L 4 7 = L 7 from if_neg (by decide)]; exact hG1.deed ho hk) (fun _ _ h => h)
    · clear hdep
      go_simp
      exact hK _ _ rfl (hG.quiet 5 (by decide) (by decide)) (fun _ _ h => h)
    · have h4 : x 4 = _ := hdep 4 rfl
      have h5 : x 5 = _ := hdep 5 rfl
      clear hdep
      simp only [h4, h5] at hK
      go_simp
      exact hK _ _ rfl (hG.quiet 6 (by decide) (by decide)) (fun _ _ h => h)
    · have h0 : x 0 = _ := hdep 0 rfl
      have hL : L 7 = false := hL0
      have hG1 := hG
      unfold GA10 at hG1
      rw [hL] at hG1
      have r0 := hG1.res.c0
      have r1 := hG1.res.c1
      have rf0 := hG1.res.f0
      have rf1 := hG1.res.f1
      clear hdep
      simp only [h0] at hK
      go_simp
      exact hK undef _ trivial (by unfold GA10; rw [show updL L 7 7 = true from if_pos rfl, show updL L 7 4 = L 4 from if_neg (by decide)]; exact hG1.stored HS6.out HS1.out HNE.out) (fun _ _ h => h)
    · have h6 : x 6 = _ := hdep 6 rfl
      clear hdep
      simp only [h6] at hK
      go_simp
      exact hK _ _ rfl (hG.quiet 8 (by decide) (by decide)) (fun _ _ h => h)
  case fin =>
    intro L x W9 hall hG hY
    have e8 : x 8 = .bool true := hY 8 (by decide)
    have hG1 := hG
    unfold GA10 at hG1
    rw [hall 4 (by decide), hall 7 (by decide)] at hG1
    have HG := Lib.hid hG1
    have q0 := hG1.res.c0
    have q1 := hG1.res.c1
    simp only [if_true] at q0 q1
    clear hG hG1 hY hall HDO HAG
    simp only [e8]
    go_wp2
    refine bodyPost_ret (v := .tuple #[.agg #[.slice AU1 N2v.length CU1, .slice AU2 M.length CU2], .bool true]) ?_ rfl ⟨S2v, N2v, M, _, _, rfl, HG.out.own, HG.out.nm, HG.out.mb, hRel2.out, hML.out, HG.out.keep⟩
    simp [results, Try.results9, go_sem, q0, q1]

set_option maxRecDepth 100000 in
set_option maxHeartbeats 8000000 in
theorem do10_1 (w0 : World) (B : Nat) (S : Grs10) (k : Nat) (v1 v2 : Value) (N : List (List UInt8)) (M : List Who10) (kd : Nat) (a b : ByteArray) (W : World) (hO : Own10 w0 W B S k) (hk9 : k ≤ 800) (h1 : NmR W v1 N) (h2 : MbR W v2 M) (hRel : Rel10 S N M) (hM : M.length ≤ 900) (ha : a.size ≤ 50) (hb5 : b.size ≤ 50) (hkd : kd % 7 = 1) :
    Calls Try.prog 9 #[.pointer (some ⟨B, 0, none⟩), .agg #[v1, v2], .agg #[.int .u8 (kd : Int), .string a, .string b]] W (Did10 w0 B k M W) := by
  have hGood := hO.good
  have hN : N.length ≤ 900 := Nat.le_trans (hRel.six hGood) (by decide)
  have hrem : (kd : Int).tmod 7 = 1 := by
    have : (kd : Int).tmod 7 = ((kd % 7 : Nat) : Int) := rfl
    rw [this, hkd]; rfl
  have hRel2 : Hid (Rel10 (drS10 S a.data.toList) (ddrN N a.data.toList) (ddrM N M a.data.toList)) := rel_drop hRel hGood _
  have hML : Hid ((ddrM N M a.data.toList).length ≤ M.length + 1) := by unfold ddrM; split; exact Nat.le_succ_of_le (drop_le M _); exact Nat.le_succ _
  have HEC : Hid (ddrE N a.data.toList = (drE10 S a.data.toList : Int)) := ddrE_eq hRel _
  have HRF : Hid (∀ W', Below W.heap.size W W' → Calls Try.prog 24 #[.agg #[v1, v2], .string a] W' (Doc10 (ddrE N a.data.toList) (ddrN N a.data.toList) (ddrM N M a.data.toList) W')) := fun W' hb => by
    have h1' := h1.later hb
    have h2' := h2.later hb
    revert h1' h2'
    generalize W' = W
    intro h1' h2'
    exact rdrop10_calls v1 v2 N M a W hN hM (by omega) h1' h2'
  have HDO : Hid (∀ W', Own10 w0 W' B S k → Calls Try.prog 19 #[.pointer (some ⟨B, 0, none⟩), .string a] W' fun e w' => e = .returned (.int .i64 (ddrE N a.data.toList)) ∧ Own10 w0 w' B (drS10 S a.data.toList) (k + 1) ∧ Keeps10 W' w') := fun W' h => by
    rw [HEC.out]
    exact (h.drop a (by omega)).mono fun e w' ⟨he, ho, hk⟩ => ⟨he, ho.mono (Nat.le_succ _), hk⟩
  obtain ⟨A1, c1, rfl⟩ := h1.shape
  obtain ⟨A, c, rfl⟩ := h2.shape
  have hb4 : Below W.heap.size W (W.alloc (.cells #[.slice A1 N.length c1, .slice A M.length c] TG)) := below_alloc (Below.refl _ _) _
  have hb45 := below_next hb4 (below_alloc (Below.refl (W.alloc (.cells #[.slice A1 N.length c1, .slice A M.length c] TG)).heap.size (W.alloc (.cells #[.slice A1 N.length c1, .slice A M.length c] TG))) (.cells #[.int .u8 (kd : Int), .string a, .string b] 32))
  have hac := actat10_new (W.alloc (.cells #[.slice A1 N.length c1, .slice A M.length c] TG)) kd a b
  rw [World.size_alloc] at hac
  have hbx := bx10_new ((W.alloc (.cells #[.slice A1 N.length c1, .slice A M.length c] TG)).alloc (.cells #[.int .u8 (kd : Int), .string a, .string b] 32)) (.slice none 0 0) (.slice none 0 0)
  rw [World.size_alloc, World.size_alloc] at hbx
  have hb6 := below_alloc (Below.refl ((W.alloc (.cells #[.slice A1 N.length c1, .slice A M.length c] TG)).alloc (.cells #[.int .u8 (kd : Int), .string a, .string b] 32)).heap.size ((W.alloc (.cells #[.slice A1 N.length c1, .slice A M.length c] TG)).alloc (.cells #[.int .u8 (kd : Int), .string a, .string b] 32))) (.cells #[.slice none 0 0, .slice none 0 0] TG)
  have hac6 := hac.later hb6
  have hb46 := below_next hb45 hb6
  have hv4 := (bx10_new W (.slice A1 N.length c1) (.slice A M.length c)).later ((below_next (below_alloc (Below.refl _ _) _) hb6))
  have HV4 := Lib.hid hv4
  have HAC := Lib.hid hac6
  have HBX := Lib.hid hbx
  have HB1 := Lib.hid hb46
  have HOW := Lib.hid (hO.later hb46)
  have HW0 : Hid (w0.heap.size ≤ W.heap.size) := hO.below.size
  have HSZ : Hid ((((W.alloc (.cells #[.slice A1 N.length c1, .slice A M.length c] TG)).alloc (.cells #[.int .u8 (kd : Int), .string a, .string b] 32)).alloc (.cells #[.slice none 0 0, .slice none 0 0] TG)).heap.size = W.heap.size + 3) := by show _ = _; simp
  clear hv4 hac hac6 hbx hb4 hb45 hb6 hb46 hO h1 h2 hRel hGood hkd
  generalize (ddrE N a.data.toList) = E at *
  generalize (drS10 S a.data.toList) = S2v at *
  generalize (ddrN N a.data.toList) = N2v at *
  generalize (ddrM N M a.data.toList) = M2v at *
  clear HEC
  go_enter Try.func9, Try.ntmps9
  go_wp2_with fail
  generalize ((W.alloc (.cells #[.slice A1 N.length c1, .slice A M.length c] TG)).alloc (.cells #[.int .u8 (kd : Int), .string a, .string b] 32)).alloc (.cells #[.slice none 0 0, .slice none 0 0] TG) = w1 at *
  have HRW := Lib.hid (HRF.out w1 HB1.out)
  clear HRF
  with_reducible refine HRW.out.mono ?_
  rintro e w2 ⟨u1, u2, rfl, hu1, hu2, hb2⟩
  obtain ⟨AU1, CU1, rfl⟩ := hu1.shape
  obtain ⟨AU2, CU2, rfl⟩ := hu2.shape
  have hb8 : Below w2.heap.size w2 (w2.alloc (.cells #[.slice AU1 N2v.length CU1, .slice AU2 M2v.length CU2] TG)) := below_alloc (Below.refl _ _) _
  have hb28 := below_next hb2 hb8
  have HAG : Hid (Ac10 w0 W B (W.heap.size + 1) (W.heap.size + 2) w2.heap.size S S2v k kd a b (.slice AU1 N2v.length CU1) (.slice AU2 M2v.length CU2) N2v M2v false false (w2.alloc (.cells #[.slice AU1 N2v.length CU1, .slice AU2 M2v.length CU2] TG))) :=
    ⟨HOW.out.later hb28, HBX.out.later hb28, bx10_new _ _ _, HAC.out.later hb28, hu1.later hb8, hu2.later hb8, Keeps10.of_below (below_next HB1.out hb28)⟩
  have HNE : Hid (w2.heap.size ≠ W.heap.size + 2) := by have := HSZ.out; have := hb2.size; show w2.heap.size ≠ _; omega
  have HS1 : Hid (W.heap.size ≤ W.heap.size + 2) := by show W.heap.size ≤ _; omega
  have HS6 : Hid (w0.heap.size ≤ W.heap.size + 2) := Nat.le_trans HW0.out (by omega)
  have hl5 : W.heap.size + 1 < w2.heap.size := by have := HSZ.out; have := hb2.size; omega
  have y1 := (HAC.out.later hb2).c1
  have y2 := (HAC.out.later hb2).c2
  clear hb2 hb8 hb28 hu1 hu2 HRW HBX HAC HOW HV4 HSZ
  go_wp2_with fail
  generalize w2.alloc (.cells #[.slice AU1 N2v.length CU1, .slice AU2 M2v.length CU2] TG) = w3 at *
  refine wp_region_st2 (by kernel_rfl) (YA10W B (W.heap.size + 1) (.slice AU1 N2v.length CU1) (.slice AU2 M2v.length CU2) a b E false) (GA10 w0 W B (W.heap.size + 1) (W.heap.size + 2) w2.heap.size S S2v k kd a b (.slice AU1 N2v.length CU1) (.slice AU2 M2v.length CU2) N2v M2v 4 7) ?F ?hF (by kernel_rfl) (by kernel_rfl) HAG.out.drew ?step ?fin
  case hF =>
    intro x
    simp only [List.map_cons, List.map_nil, putL, Act.put, List.setIfInBounds_toArray, List.set_cons_zero, List.set_cons_succ, Nat.zero_add, Nat.reduceAdd]
    exact rfl
  case step =>
    refine ⟨?_, ?_, ?_, ?_, ?_, ?_, ?_, ?_, ?_, trivial⟩
    all_goals intro L x W hL0 hd0 hG hdep K hK
    · have z0 := hG.var.c0
      have z1 := hG.var.c1
      clear hdep
      go_simp
      exact hK _ _ rfl (hG.quiet 0 (by decide) (by decide)) (fun _ _ h => h)
    · clear hdep
      go_simp
      exact hK _ _ rfl (hG.quiet 1 (by decide) (by decide)) (fun _ _ h => h)
    · clear hdep
      go_simp
      exact hK _ _ rfl (hG.quiet 2 (by decide) (by decide)) (fun _ _ h => h)
    · have h2 : x 2 = _ := hdep 2 rfl
      have y1 := hG.act.c1
      clear hdep
      simp only [h2] at hK
      go_simp
      exact hK _ _ rfl (hG.quiet 3 (by decide) (by decide)) (fun _ _ h => h)
    · have h1 : x 1 = _ := hdep 1 rfl
      have h3 : x 3 = _ := hdep 3 rfl
      have hL : L 4 = false := hL0
      have hG1 := hG
      unfold GA10 at hG1
      rw [hL] at hG1
      have HDD := Lib.hid (HDO.out W hG1.own)
      clear hdep
      simp only [h1, h3] at hK
      go_simp
      refine HDD.out.mono ?_
      rintro e W' ⟨rfl, ho, hk⟩
      exact hK _ _ rfl (by unfold GA10; rw [show updL L 4 4 = true from if_pos rfl, show updL L 4 7 = L 7 from if_neg (by decide)]; exact hG1.deed ho hk) (fun _ _ h => h)
    · clear hdep
      go_simp
      exact hK _ _ rfl (hG.quiet 5 (by decide) (by decide)) (fun _ _ h => h)
    · have h4 : x 4 = _ := hdep 4 rfl
      have h5 : x 5 = _ := hdep 5 rfl
      clear hdep
      simp only [h4, h5] at hK
      go_simp
      exact hK _ _ rfl (hG.quiet 6 (by decide) (by decide)) (fun _ _ h => h)
    · have h0 : x 0 = _ := hdep 0 rfl
      have hL : L 7 = false := hL0
      have hG1 := hG
      unfold GA10 at hG1
      rw [hL] at hG1
      have r0 := hG1.res.c0
      have r1 := hG1.res.c1
      have rf0 := hG1.res.f0
      have rf1 := hG1.res.f1
      clear hdep
      simp only [h0] at hK
      go_simp
      exact hK undef _ trivial (by unfold GA10; rw [show updL L 7 7 = true from if_pos rfl, show updL L 7 4 = L 4 from if_neg (by decide)]; exact hG1.stored HS6.out HS1.out HNE.out) (fun _ _ h => h)
    · have h6 : x 6 = _ := hdep 6 rfl
      clear hdep
      simp only [h6] at hK
      go_simp
      exact hK _ _ rfl (hG.quiet 8 (by decide) (by decide)) (fun _ _ h => h)
  case fin =>
    intro L x W9 hall hG hY
    have e8 : x 8 = .bool true := hY 8 (by decide)
    have hG1 := hG
    unfold GA10 at hG1
    rw [hall 4 (by decide), hall 7 (by decide)] at hG1
    have HG := Lib.hid hG1
    have q0 := hG1.res.c0
    have q1 := hG1.res.c1
    simp only [if_true] at q0 q1
    clear hG hG1 hY hall HDO HAG
    simp only [e8]
    go_wp2
    refine bodyPost_ret (v := .tuple #[.agg #[.slice AU1 N2v.length CU1, .slice AU2 M2v.length CU2], .bool true]) ?_ rfl ⟨S2v, N2v, M2v, _, _, rfl, HG.out.own, HG.out.nm, HG.out.mb, hRel2.out, hML.out, HG.out.keep⟩
    simp [results, Try.results9, go_sem, q0, q1]

set_option maxRecDepth 100000 in
set_option maxHeartbeats 8000000 in
theorem do10_2 (w0 : World) (B : Nat) (S : Grs10) (k : Nat) (v1 v2 : Value) (N : List (List UInt8)) (M : List Who10) (kd : Nat) (a b : ByteArray) (W : World) (hO : Own10 w0 W B S k) (hk9 : k ≤ 800) (h1 : NmR W v1 N) (h2 : MbR W v2 M) (hRel : Rel10 S N M) (hM : M.length ≤ 900) (ha : a.size ≤ 50) (hb5 : b.size ≤ 50) (hkd : kd % 7 = 2) :
    Calls Try.prog 9 #[.pointer (some ⟨B, 0, none⟩), .agg #[v1, v2], .agg #[.int .u8 (kd : Int), .string a, .string b]] W (Did10 w0 B k M W) := by
  have hGood := hO.good
  have hN : N.length ≤ 900 := Nat.le_trans (hRel.six hGood) (by decide)
  have hrem : (kd : Int).tmod 7 = 2 := by
    have : (kd : Int).tmod 7 = ((kd % 7 : Nat) : Int) := rfl
    rw [this, hkd]; rfl
  have hRel2 : Hid (Rel10 (joS10 S a.data.toList b.data.toList) (N) (djoM N M a.data.toList b.data.toList)) := rel_join hRel hGood _ _
  have hML : Hid ((djoM N M a.data.toList b.data.toList).length ≤ M.length + 1) := by show _ ≤ _; unfold djoM; split; (rw [List.length_append]; exact Nat.le_refl _); exact Nat.le_succ _
  have HEC : Hid (djoE N M a.data.toList b.data.toList = (joE10 S a.data.toList b.data.toList : Int)) := djoE_eq hRel _ _
  have HRF : Hid (∀ W', Below W.heap.size W W' → Calls Try.prog 25 #[.agg #[v1, v2], .string a, .string b] W' (Doc10 (djoE N M a.data.toList b.data.toList) (N) (djoM N M a.data.toList b.data.toList) W')) := fun W' hb => by
    have h1' := h1.later hb
    have h2' := h2.later hb
    revert h1' h2'
    generalize W' = W
    intro h1' h2'
    exact rjoin10_calls v1 v2 N M a b W hN hM (by omega) (by omega) h1' h2'
  have HDO : Hid (∀ W', Own10 w0 W' B S k → Calls Try.prog 22 #[.pointer (some ⟨B, 0, none⟩), .string a, .string b] W' fun e w' => e = .returned (.int .i64 (djoE N M a.data.toList b.data.toList)) ∧ Own10 w0 w' B (joS10 S a.data.toList b.data.toList) (k + 1) ∧ Keeps10 W' w') := fun W' h => by
    rw [HEC.out]
    exact (h.join (by omega) a b (by omega) (by omega)).mono fun e w' ⟨he, ho, hk⟩ => ⟨he, ho, hk⟩
  obtain ⟨A1, c1, rfl⟩ := h1.shape
  obtain ⟨A, c, rfl⟩ := h2.shape
  have hb4 : Below W.heap.size W (W.alloc (.cells #[.slice A1 N.length c1, .slice A M.length c] TG)) := below_alloc (Below.refl _ _) _
  have hb45 := below_next hb4 (below_alloc (Below.refl (W.alloc (.cells #[.slice A1 N.length c1, .slice A M.length c] TG)).heap.size (W.alloc (.cells #[.slice A1 N.length c1, .slice A M.length c] TG))) (.cells #[.int .u8 (kd : Int), .string a, .string b] 32))
  have hac := actat10_new (W.alloc (.cells #[.slice A1 N.length c1, .slice A M.length c] TG)) kd a b
  rw [World.size_alloc] at hac
  have hbx := bx10_new ((W.alloc (.cells #[.slice A1 N.length c1, .slice A M.length c] TG)).alloc (.cells #[.int .u8 (kd : Int), .string a, .string b] 32)) (.slice none 0 0) (.slice none 0 0)
  rw [World.size_alloc, World.size_alloc] at hbx
  have hb6 := below_alloc (Below.refl ((W.alloc (.cells #[.slice A1 N.length c1, .slice A M.length c] TG)).alloc (.cells #[.int .u8 (kd : Int), .string a, .string b] 32)).heap.size ((W.alloc (.cells #[.slice A1 N.length c1, .slice A M.length c] TG)).alloc (.cells #[.int .u8 (kd : Int), .string a, .string b] 32))) (.cells #[.slice none 0 0, .slice none 0 0] TG)
  have hac6 := hac.later hb6
  have hb46 := below_next hb45 hb6
  have hv4 := (bx10_new W (.slice A1 N.length c1) (.slice A M.length c)).later ((below_next (below_alloc (Below.refl _ _) _) hb6))
  have HV4 := Lib.hid hv4
  have HAC := Lib.hid hac6
  have HBX := Lib.hid hbx
  have HB1 := Lib.hid hb46
  have HOW := Lib.hid (hO.later hb46)
  have HW0 : Hid (w0.heap.size ≤ W.heap.size) := hO.below.size
  have HSZ : Hid ((((W.alloc (.cells #[.slice A1 N.length c1, .slice A M.length c] TG)).alloc (.cells #[.int .u8 (kd : Int), .string a, .string b] 32)).alloc (.cells #[.slice none 0 0, .slice none 0 0] TG)).heap.size = W.heap.size + 3) := by show _ = _; simp
  clear hv4 hac hac6 hbx hb4 hb45 hb6 hb46 hO h1 h2 hRel hGood hkd
  generalize (djoE N M a.data.toList b.data.toList) = E at *
  generalize (joS10 S a.data.toList b.data.toList) = S2v at *
  generalize (djoM N M a.data.toList b.data.toList) = M2v at *
  clear HEC
  go_enter Try.func9, Try.ntmps9
  go_wp2_with fail
  generalize ((W.alloc (.cells #[.slice A1 N.length c1, .slice A M.length c] TG)).alloc (.cells #[.int .u8 (kd : Int), .string a, .string b] 32)).alloc (.cells #[.slice none 0 0, .slice none 0 0] TG) = w1 at *
  have HRW := Lib.hid (HRF.out w1 HB1.out)
  clear HRF
  with_reducible refine HRW.out.mono ?_
  rintro e w2 ⟨u1, u2, rfl, hu1, hu2, hb2⟩
  obtain ⟨AU1, CU1, rfl⟩ := hu1.shape
  obtain ⟨AU2, CU2, rfl⟩ := hu2.shape
  have hb8 : Below w2.heap.size w2 (w2.alloc (.cells #[.slice AU1 N.length CU1, .slice AU2 M2v.length CU2] TG)) := below_alloc (Below.refl _ _) _
  have hb28 := below_next hb2 hb8
  have HAG : Hid (Ac10 w0 W B (W.heap.size + 1) (W.heap.size + 2) w2.heap.size S S2v k kd a b (.slice AU1 N.length CU1) (.slice AU2 M2v.length CU2) N M2v false false (w2.alloc (.cells #[.slice AU1 N.length CU1, .slice AU2 M2v.length CU2] TG))) :=
    ⟨HOW.out.later hb28, HBX.out.later hb28, bx10_new _ _ _, HAC.out.later hb28, hu1.later hb8, hu2.later hb8, Keeps10.of_below (below_next HB1.out hb28)⟩
  have HNE : Hid (w2.heap.size ≠ W.heap.size + 2) := by have := HSZ.out; have := hb2.size; show w2.heap.size ≠ _; omega
  have HS1 : Hid (W.heap.size ≤ W.heap.size + 2) := by show W.heap.size ≤ _; omega
  have HS6 : Hid (w0.heap.size ≤ W.heap.size + 2) := Nat.le_trans HW0.out (by omega)
  have hl5 : W.heap.size + 1 < w2.heap.size := by have := HSZ.out; have := hb2.size; omega
  have y1 := (HAC.out.later hb2).c1
  have y2 := (HAC.out.later hb2).c2
  clear hb2 hb8 hb28 hu1 hu2 HRW HBX HAC HOW HV4 HSZ
  go_wp2_with fail
  generalize w2.alloc (.cells #[.slice AU1 N.length CU1, .slice AU2 M2v.length CU2] TG) = w3 at *
  refine wp_region_st2 (by kernel_rfl) (YA10W B (W.heap.size + 1) (.slice AU1 N.length CU1) (.slice AU2 M2v.length CU2) a b E true) (GA10 w0 W B (W.heap.size + 1) (W.heap.size + 2) w2.heap.size S S2v k kd a b (.slice AU1 N.length CU1) (.slice AU2 M2v.length CU2) N M2v 6 9) ?F ?hF (by kernel_rfl) (by kernel_rfl) HAG.out.drew ?step ?fin
  case hF =>
    intro x
    simp only [List.map_cons, List.map_nil, putL, Act.put, List.setIfInBounds_toArray, List.set_cons_zero, List.set_cons_succ, Nat.zero_add, Nat.reduceAdd]
    exact rfl
  case step =>
    refine ⟨?_, ?_, ?_, ?_, ?_, ?_, ?_, ?_, ?_, ?_, ?_, trivial⟩
    all_goals intro L x W hL0 hd0 hG hdep K hK
    · have z0 := hG.var.c0
      have z1 := hG.var.c1
      clear hdep
      go_simp
      exact hK _ _ rfl (hG.quiet 0 (by decide) (by decide)) (fun _ _ h => h)
    · clear hdep
      go_simp
      exact hK _ _ rfl (hG.quiet 1 (by decide) (by decide)) (fun _ _ h => h)
    · clear hdep
      go_simp
      exact hK _ _ rfl (hG.quiet 2 (by decide) (by decide)) (fun _ _ h => h)
    · have h2 : x 2 = _ := hdep 2 rfl
      have y1 := hG.act.c1
      clear hdep
      simp only [h2] at hK
      go_simp
      exact hK _ _ rfl (hG.quiet 3 (by decide) (by decide)) (fun _ _ h => h)
    · clear hdep
      go_simp
      exact hK _ _ rfl (hG.quiet 4 (by decide) (by decide)) (fun _ _ h => h)
    · have h4 : x 4 = _ := hdep 4 rfl
      have y2 := hG.act.c2
      clear hdep
      simp only [h4] at hK
      go_simp
      exact hK _ _ rfl (hG.quiet 5 (by decide) (by decide)) (fun _ _ h => h)
    · have h1 : x 1 = _ := hdep 1 rfl
      have h3 : x 3 = _ := hdep 3 rfl
      have h5 : x 5 = _ := hdep 5 rfl
      have hL : L 6 = false := hL0
      have hG1 := hG
      unfold GA10 at hG1
      rw [hL] at hG1
      have HDD := Lib.hid (HDO.out W hG1.own)
      clear hdep
      simp only [h1, h3, h5] at hK
      go_simp
      refine HDD.out.mono ?_
      rintro e W' ⟨rfl, ho, hk⟩
      exact hK _ _ rfl (by unfold GA10; rw [show updL L 6 6 = true from if_pos rfl, show updL L 6 9 = L 9 from if_neg (by decide)]; exact hG1.deed ho hk) (fun _ _ h => h)
    · clear hdep
      go_simp
      exact hK _ _ rfl (hG.quiet 7 (by decide) (by decide)) (fun _ _ h => h)
    · have h6 : x 6 = _ := hdep 6 rfl
      have h7 : x 7 = _ := hdep 7 rfl
      clear hdep
      simp only [h6, h7] at hK
      go_simp
      exact hK _ _ rfl (hG.quiet 8 (by decide) (by decide)) (fun _ _ h => h)
    · have h0 : x 0 = _ := hdep 0 rfl
      have hL : L 9 = false := hL0
      have hG1 := hG
      unfold GA10 at hG1
      rw [hL] at hG1
      have r0 := hG1.res.c0
      have r1 := hG1.res.c1
      have rf0 := hG1.res.f0
      have rf1 := hG1.res.f1
      clear hdep
      simp only [h0] at hK
      go_simp
      exact hK undef _ trivial (by unfold GA10; rw [show updL L 9 9 = true from if_pos rfl, show updL L 9 6 = L 6 from if_neg (by decide)]; exact hG1.stored HS6.out HS1.out HNE.out) (fun _ _ h => h)
    · have h8 : x 8 = _ := hdep 8 rfl
      clear hdep
      simp only [h8] at hK
      go_simp
      exact hK _ _ rfl (hG.quiet 10 (by decide) (by decide)) (fun _ _ h => h)
  case fin =>
    intro L x W9 hall hG hY
    have e8 : x 10 = .bool true := hY 10 (by decide)
    have hG1 := hG
    unfold GA10 at hG1
    rw [hall 6 (by decide), hall 9 (by decide)] at hG1
    have HG := Lib.hid hG1
    have q0 := hG1.res.c0
    have q1 := hG1.res.c1
    simp only [if_true] at q0 q1
    clear hG hG1 hY hall HDO HAG
    simp only [e8]
    go_wp2
    refine bodyPost_ret (v := .tuple #[.agg #[.slice AU1 N.length CU1, .slice AU2 M2v.length CU2], .bool true]) ?_ rfl ⟨S2v, N, M2v, _, _, rfl, HG.out.own, HG.out.nm, HG.out.mb, hRel2.out, hML.out, HG.out.keep⟩
    simp [results, Try.results9, go_sem, q0, q1]

set_option maxRecDepth 100000 in
set_option maxHeartbeats 8000000 in
theorem do10_3 (w0 : World) (B : Nat) (S : Grs10) (k : Nat) (v1 v2 : Value) (N : List (List UInt8)) (M : List Who10) (kd : Nat) (a b : ByteArray) (W : World) (hO : Own10 w0 W B S k) (hk9 : k ≤ 800) (h1 : NmR W v1 N) (h2 : MbR W v2 M) (hRel : Rel10 S N M) (hM : M.length ≤ 900) (ha : a.size ≤ 50) (hb5 : b.size ≤ 50) (hkd : kd % 7 = 3) :
    Calls Try.prog 9 #[.pointer (some ⟨B, 0, none⟩), .agg #[v1, v2], .agg #[.int .u8 (kd : Int), .string a, .string b]] W (Did10 w0 B k M W) := by
  have hGood := hO.good
  have hN : N.length ≤ 900 := Nat.le_trans (hRel.six hGood) (by decide)
  have hrem : (kd : Int).tmod 7 = 3 := by
    have : (kd : Int).tmod 7 = ((kd % 7 : Nat) : Int) := rfl
    rw [this, hkd]; rfl
  have hRel2 : Hid (Rel10 (leS10 S a.data.toList b.data.toList) (N) (dleM N M a.data.toList b.data.toList)) := rel_leave hRel hGood _ _
  have hML : Hid ((dleM N M a.data.toList b.data.toList).length ≤ M.length + 1) := by unfold dleM; split; exact Nat.le_succ_of_le (outM_le M _ _); exact Nat.le_succ _
  have HEC : Hid (dleE N M a.data.toList b.data.toList = (leE10 S a.data.toList b.data.toList : Int)) := dleE_eq hRel _ _
  have HRF : Hid (∀ W', Below W.heap.size W W' → Calls Try.prog 26 #[.agg #[v1, v2], .string a, .string b] W' (Doc10 (dleE N M a.data.toList b.data.toList) (N) (dleM N M a.data.toList b.data.toList) W')) := fun W' hb => by
    have h1' := h1.later hb
    have h2' := h2.later hb
    revert h1' h2'
    generalize W' = W
    intro h1' h2'
    exact rleave10_calls v1 v2 N M a b W hN hM (by omega) (by omega) h1' h2'
  have HDO : Hid (∀ W', Own10 w0 W' B S k → Calls Try.prog 27 #[.pointer (some ⟨B, 0, none⟩), .string a, .string b] W' fun e w' => e = .returned (.int .i64 (dleE N M a.data.toList b.data.toList)) ∧ Own10 w0 w' B (leS10 S a.data.toList b.data.toList) (k + 1) ∧ Keeps10 W' w') := fun W' h => by
    rw [HEC.out]
    exact (h.leave a b (by omega) (by omega)).mono fun e w' ⟨he, ho, hk⟩ => ⟨he, ho.mono (Nat.le_succ _), hk⟩
  obtain ⟨A1, c1, rfl⟩ := h1.shape
  obtain ⟨A, c, rfl⟩ := h2.shape
  have hb4 : Below W.heap.size W (W.alloc (.cells #[.slice A1 N.length c1, .slice A M.length c] TG)) := below_alloc (Below.refl _ _) _
  have hb45 := below_next hb4 (below_alloc (Below.refl (W.alloc (.cells #[.slice A1 N.length c1, .slice A M.length c] TG)).heap.size (W.alloc (.cells #[.slice A1 N.length c1, .slice A M.length c] TG))) (.cells #[.int .u8 (kd : Int), .string a, .string b] 32))
  have hac := actat10_new (W.alloc (.cells #[.slice A1 N.length c1, .slice A M.length c] TG)) kd a b
  rw [World.size_alloc] at hac
  have hbx := bx10_new ((W.alloc (.cells #[.slice A1 N.length c1, .slice A M.length c] TG)).alloc (.cells #[.int .u8 (kd : Int), .string a, .string b] 32)) (.slice none 0 0) (.slice none 0 0)
  rw [World.size_alloc, World.size_alloc] at hbx
  have hb6 := below_alloc (Below.refl ((W.alloc (.cells #[.slice A1 N.length c1, .slice A M.length c] TG)).alloc (.cells #[.int .u8 (kd : Int), .string a, .string b] 32)).heap.size ((W.alloc (.cells #[.slice A1 N.length c1, .slice A M.length c] TG)).alloc (.cells #[.int .u8 (kd : Int), .string a, .string b] 32))) (.cells #[.slice none 0 0, .slice none 0 0] TG)
  have hac6 := hac.later hb6
  have hb46 := below_next hb45 hb6
  have hv4 := (bx10_new W (.slice A1 N.length c1) (.slice A M.length c)).later ((below_next (below_alloc (Below.refl _ _) _) hb6))
  have HV4 := Lib.hid hv4
  have HAC := Lib.hid hac6
  have HBX := Lib.hid hbx
  have HB1 := Lib.hid hb46
  have HOW := Lib.hid (hO.later hb46)
  have HW0 : Hid (w0.heap.size ≤ W.heap.size) := hO.below.size
  have HSZ : Hid ((((W.alloc (.cells #[.slice A1 N.length c1, .slice A M.length c] TG)).alloc (.cells #[.int .u8 (kd : Int), .string a, .string b] 32)).alloc (.cells #[.slice none 0 0, .slice none 0 0] TG)).heap.size = W.heap.size + 3) := by show _ = _; simp
  clear hv4 hac hac6 hbx hb4 hb45 hb6 hb46 hO h1 h2 hRel hGood hkd
  generalize (dleE N M a.data.toList b.data.toList) = E at *
  generalize (leS10 S a.data.toList b.data.toList) = S2v at *
  generalize (dleM N M a.data.toList b.data.toList) = M2v at *
  clear HEC
  go_enter Try.func9, Try.ntmps9
  go_wp2_with fail
  generalize ((W.alloc (.cells #[.slice A1 N.length c1, .slice A M.length c] TG)).alloc (.cells #[.int .u8 (kd : Int), .string a, .string b] 32)).alloc (.cells #[.slice none 0 0, .slice none 0 0] TG) = w1 at *
  have HRW := Lib.hid (HRF.out w1 HB1.out)
  clear HRF
  with_reducible refine HRW.out.mono ?_
  rintro e w2 ⟨u1, u2, rfl, hu1, hu2, hb2⟩
  obtain ⟨AU1, CU1, rfl⟩ := hu1.shape
  obtain ⟨AU2, CU2, rfl⟩ := hu2.shape
  have hb8 : Below w2.heap.size w2 (w2.alloc (.cells #[.slice AU1 N.length CU1, .slice AU2 M2v.length CU2] TG)) := below_alloc (Below.refl _ _) _
  have hb28 := below_next hb2 hb8
  have HAG : Hid (Ac10 w0 W B (W.heap.size + 1) (W.heap.size + 2) w2.heap.size S S2v k kd a b (.slice AU1 N.length CU1) (.slice AU2 M2v.length CU2) N M2v false false (w2.alloc (.cells #[.slice AU1 N.length CU1, .slice AU2 M2v.length CU2] TG))) :=
    ⟨HOW.out.later hb28, HBX.out.later hb28, bx10_new _ _ _, HAC.out.later hb28, hu1.later hb8, hu2.later hb8, Keeps10.of_below (below_next HB1.out hb28)⟩
  have HNE : Hid (w2.heap.size ≠ W.heap.size + 2) := by have := HSZ.out; have := hb2.size; show w2.heap.size ≠ _; omega
  have HS1 : Hid (W.heap.size ≤ W.heap.size + 2) := by show W.heap.size ≤ _; omega
  have HS6 : Hid (w0.heap.size ≤ W.heap.size + 2) := Nat.le_trans HW0.out (by omega)
  have hl5 : W.heap.size + 1 < w2.heap.size := by have := HSZ.out; have := hb2.size; omega
  have y1 := (HAC.out.later hb2).c1
  have y2 := (HAC.out.later hb2).c2
  clear hb2 hb8 hb28 hu1 hu2 HRW HBX HAC HOW HV4 HSZ
  go_wp2_with fail
  generalize w2.alloc (.cells #[.slice AU1 N.length CU1, .slice AU2 M2v.length CU2] TG) = w3 at *
  refine wp_region_st2 (by kernel_rfl) (YA10W B (W.heap.size + 1) (.slice AU1 N.length CU1) (.slice AU2 M2v.length CU2) a b E true) (GA10 w0 W B (W.heap.size + 1) (W.heap.size + 2) w2.heap.size S S2v k kd a b (.slice AU1 N.length CU1) (.slice AU2 M2v.length CU2) N M2v 6 9) ?F ?hF (by kernel_rfl) (by kernel_rfl) HAG.out.drew ?step ?fin
  case hF =>
    intro x
    simp only [List.map_cons, List.map_nil, putL, Act.put, List.setIfInBounds_toArray, List.set_cons_zero, List.set_cons_succ, Nat.zero_add, Nat.reduceAdd]
    exact rfl
  case step =>
    refine ⟨?_, ?_, ?_, ?_, ?_, ?_, ?_, ?_, ?_, ?_, ?_, trivial⟩
    all_goals intro L x W hL0 hd0 hG hdep K hK
    · have z0 := hG.var.c0
      have z1 := hG.var.c1
      clear hdep
      go_simp
      exact hK _ _ rfl (hG.quiet 0 (by decide) (by decide)) (fun _ _ h => h)
    · clear hdep
      go_simp
      exact hK _ _ rfl (hG.quiet 1 (by decide) (by decide)) (fun _ _ h => h)
    · clear hdep
      go_simp
      exact hK _ _ rfl (hG.quiet 2 (by decide) (by decide)) (fun _ _ h => h)
    · have h2 : x 2 = _ := hdep 2 rfl
      have y1 := hG.act.c1
      clear hdep
      simp only [h2] at hK
      go_simp
      exact hK _ _ rfl (hG.quiet 3 (by decide) (by decide)) (fun _ _ h => h)
    · clear hdep
      go_simp
      exact hK _ _ rfl (hG.quiet 4 (by decide) (by decide)) (fun _ _ h => h)
    · have h4 : x 4 = _ := hdep 4 rfl
      have y2 := hG.act.c2
      clear hdep
      simp only [h4] at hK
      go_simp
      exact hK _ _ rfl (hG.quiet 5 (by decide) (by decide)) (fun _ _ h => h)
    · have h1 : x 1 = _ := hdep 1 rfl
      have h3 : x 3 = _ := hdep 3 rfl
      have h5 : x 5 = _ := hdep 5 rfl
      have hL : L 6 = false := hL0
      have hG1 := hG
      unfold GA10 at hG1
      rw [hL] at hG1
      have HDD := Lib.hid (HDO.out W hG1.own)
      clear hdep
      simp only [h1, h3, h5] at hK
      go_simp
      refine HDD.out.mono ?_
      rintro e W' ⟨rfl, ho, hk⟩
      exact hK _ _ rfl (by unfold GA10; rw [show updL L 6 6 = true from if_pos rfl, show updL L 6 9 = L 9 from if_neg (by decide)]; exact hG1.deed ho hk) (fun _ _ h => h)
    · clear hdep
      go_simp
      exact hK _ _ rfl (hG.quiet 7 (by decide) (by decide)) (fun _ _ h => h)
    · have h6 : x 6 = _ := hdep 6 rfl
      have h7 : x 7 = _ := hdep 7 rfl
      clear hdep
      simp only [h6, h7] at hK
      go_simp
      exact hK _ _ rfl (hG.quiet 8 (by decide) (by decide)) (fun _ _ h => h)
    · have h0 : x 0 = _ := hdep 0 rfl
      have hL : L 9 = false := hL0
      have hG1 := hG
      unfold GA10 at hG1
      rw [hL] at hG1
      have r0 := hG1.res.c0
      have r1 := hG1.res.c1
      have rf0 := hG1.res.f0
      have rf1 := hG1.res.f1
      clear hdep
      simp only [h0] at hK
      go_simp
      exact hK undef _ trivial (by unfold GA10; rw [show updL L 9 9 = true from if_pos rfl, show updL L 9 6 = L 6 from if_neg (by decide)]; exact hG1.stored HS6.out HS1.out HNE.out) (fun _ _ h => h)
    · have h8 : x 8 = _ := hdep 8 rfl
      clear hdep
      simp only [h8] at hK
      go_simp
      exact hK _ _ rfl (hG.quiet 10 (by decide) (by decide)) (fun _ _ h => h)
  case fin =>
    intro L x W9 hall hG hY
    have e8 : x 10 = .bool true := hY 10 (by decide)
    have hG1 := hG
    unfold GA10 at hG1
    rw [hall 6 (by decide), hall 9 (by decide)] at hG1
    have HG := Lib.hid hG1
    have q0 := hG1.res.c0
    have q1 := hG1.res.c1
    simp only [if_true] at q0 q1
    clear hG hG1 hY hall HDO HAG
    simp only [e8]
    go_wp2
    refine bodyPost_ret (v := .tuple #[.agg #[.slice AU1 N.length CU1, .slice AU2 M2v.length CU2], .bool true]) ?_ rfl ⟨S2v, N, M2v, _, _, rfl, HG.out.own, HG.out.nm, HG.out.mb, hRel2.out, hML.out, HG.out.keep⟩
    simp [results, Try.results9, go_sem, q0, q1]

set_option maxRecDepth 100000 in
set_option maxHeartbeats 8000000 in
theorem do10_4 (w0 : World) (B : Nat) (S : Grs10) (k : Nat) (v1 v2 : Value) (N : List (List UInt8)) (M : List Who10) (kd : Nat) (a b : ByteArray) (W : World) (hO : Own10 w0 W B S k) (hk9 : k ≤ 800) (h1 : NmR W v1 N) (h2 : MbR W v2 M) (hRel : Rel10 S N M) (hM : M.length ≤ 900) (ha : a.size ≤ 50) (hb5 : b.size ≤ 50) (hkd : kd % 7 = 4) :
    Calls Try.prog 9 #[.pointer (some ⟨B, 0, none⟩), .agg #[v1, v2], .agg #[.int .u8 (kd : Int), .string a, .string b]] W (Did10 w0 B k M W) := by
  have hGood := hO.good
  have hN : N.length ≤ 900 := Nat.le_trans (hRel.six hGood) (by decide)
  have hrem : (kd : Int).tmod 7 = 4 := by
    have : (kd : Int).tmod 7 = ((kd % 7 : Nat) : Int) := rfl
    rw [this, hkd]; rfl
  have hRel2 : Hid (Rel10 (reS10 S a.data.toList b.data.toList) (N) (dreM M a.data.toList b.data.toList)) := rel_rename hRel hGood _ _
  have hML : Hid ((dreM M a.data.toList b.data.toList).length ≤ M.length + 1) := by unfold dreM; split; (unfold renM; rw [List.length_map]; exact Nat.le_succ _); exact Nat.le_succ _
  have HEC : Hid (dreE M a.data.toList b.data.toList = (reE10 S a.data.toList b.data.toList : Int)) := dreE_eq hRel hGood.rise _ _
  have HRF : Hid (∀ W', Below W.heap.size W W' → Calls Try.prog 28 #[.agg #[v1, v2], .string a, .string b] W' (Doc10 (dreE M a.data.toList b.data.toList) (N) (dreM M a.data.toList b.data.toList) W')) := fun W' hb => by
    have h1' := h1.later hb
    have h2' := h2.later hb
    revert h1' h2'
    generalize W' = W
    intro h1' h2'
    exact rrename10_calls v1 v2 N M a b W hM (by omega) h1' h2'
  have HDO : Hid (∀ W', Own10 w0 W' B S k → Calls Try.prog 18 #[.pointer (some ⟨B, 0, none⟩), .string a, .string b] W' fun e w' => e = .returned (.int .i64 (dreE M a.data.toList b.data.toList)) ∧ Own10 w0 w' B (reS10 S a.data.toList b.data.toList) (k + 1) ∧ Keeps10 W' w') := fun W' h => by
    rw [HEC.out]
    exact (h.rename (by omega) a b (by omega) (by omega)).mono fun e w' ⟨he, ho, hk⟩ => ⟨he, ho.mono (Nat.le_succ _), hk⟩
  obtain ⟨A1, c1, rfl⟩ := h1.shape
  obtain ⟨A, c, rfl⟩ := h2.shape
  have hb4 : Below W.heap.size W (W.alloc (.cells #[.slice A1 N.length c1, .slice A M.length c] TG)) := below_alloc (Below.refl _ _) _
  have hb45 := below_next hb4 (below_alloc (Below.refl (W.alloc (.cells #[.slice A1 N.length c1, .slice A M.length c] TG)).heap.size (W.alloc (.cells #[.slice A1 N.length c1, .slice A M.length c] TG))) (.cells #[.int .u8 (kd : Int), .string a, .string b] 32))
  have hac := actat10_new (W.alloc (.cells #[.slice A1 N.length c1, .slice A M.length c] TG)) kd a b
  rw [World.size_alloc] at hac
  have hbx := bx10_new ((W.alloc (.cells #[.slice A1 N.length c1, .slice A M.length c] TG)).alloc (.cells #[.int .u8 (kd : Int), .string a, .string b] 32)) (.slice none 0 0) (.slice none 0 0)
  rw [World.size_alloc, World.size_alloc] at hbx
  have hb6 := below_alloc (Below.refl ((W.alloc (.cells #[.slice A1 N.length c1, .slice A M.length c] TG)).alloc (.cells #[.int .u8 (kd : Int), .string a, .string b] 32)).heap.size ((W.alloc (.cells #[.slice A1 N.length c1, .slice A M.length c] TG)).alloc (.cells #[.int .u8 (kd : Int), .string a, .string b] 32))) (.cells #[.slice none 0 0, .slice none 0 0] TG)
  have hac6 := hac.later hb6
  have hb46 := below_next hb45 hb6
  have hv4 := (bx10_new W (.slice A1 N.length c1) (.slice A M.length c)).later ((below_next (below_alloc (Below.refl _ _) _) hb6))
  have HV4 := Lib.hid hv4
  have HAC := Lib.hid hac6
  have HBX := Lib.hid hbx
  have HB1 := Lib.hid hb46
  have HOW := Lib.hid (hO.later hb46)
  have HW0 : Hid (w0.heap.size ≤ W.heap.size) := hO.below.size
  have HSZ : Hid ((((W.alloc (.cells #[.slice A1 N.length c1, .slice A M.length c] TG)).alloc (.cells #[.int .u8 (kd : Int), .string a, .string b] 32)).alloc (.cells #[.slice none 0 0, .slice none 0 0] TG)).heap.size = W.heap.size + 3) := by show _ = _; simp
  clear hv4 hac hac6 hbx hb4 hb45 hb6 hb46 hO h1 h2 hRel hGood hkd
  generalize (dreE M a.data.toList b.data.toList) = E at *
  generalize (reS10 S a.data.toList b.data.toList) = S2v at *
  generalize (dreM M a.data.toList b.data.toList) = M2v at *
  clear HEC
  go_enter Try.func9, Try.ntmps9
  go_wp2_with fail
  generalize ((W.alloc (.cells #[.slice A1 N.length c1, .slice A M.length c] TG)).alloc (.cells #[.int .u8 (kd : Int), .string a, .string b] 32)).alloc (.cells #[.slice none 0 0, .slice none 0 0] TG) = w1 at *
  have HRW := Lib.hid (HRF.out w1 HB1.out)
  clear HRF
  with_reducible refine HRW.out.mono ?_
  rintro e w2 ⟨u1, u2, rfl, hu1, hu2, hb2⟩
  obtain ⟨AU1, CU1, rfl⟩ := hu1.shape
  obtain ⟨AU2, CU2, rfl⟩ := hu2.shape
  have hb8 : Below w2.heap.size w2 (w2.alloc (.cells #[.slice AU1 N.length CU1, .slice AU2 M2v.length CU2] TG)) := below_alloc (Below.refl _ _) _
  have hb28 := below_next hb2 hb8
  have HAG : Hid (Ac10 w0 W B (W.heap.size + 1) (W.heap.size + 2) w2.heap.size S S2v k kd a b (.slice AU1 N.length CU1) (.slice AU2 M2v.length CU2) N M2v false false (w2.alloc (.cells #[.slice AU1 N.length CU1, .slice AU2 M2v.length CU2] TG))) :=
    ⟨HOW.out.later hb28, HBX.out.later hb28, bx10_new _ _ _, HAC.out.later hb28, hu1.later hb8, hu2.later hb8, Keeps10.of_below (below_next HB1.out hb28)⟩
  have HNE : Hid (w2.heap.size ≠ W.heap.size + 2) := by have := HSZ.out; have := hb2.size; show w2.heap.size ≠ _; omega
  have HS1 : Hid (W.heap.size ≤ W.heap.size + 2) := by show W.heap.size ≤ _; omega
  have HS6 : Hid (w0.heap.size ≤ W.heap.size + 2) := Nat.le_trans HW0.out (by omega)
  have hl5 : W.heap.size + 1 < w2.heap.size := by have := HSZ.out; have := hb2.size; omega
  have y1 := (HAC.out.later hb2).c1
  have y2 := (HAC.out.later hb2).c2
  clear hb2 hb8 hb28 hu1 hu2 HRW HBX HAC HOW HV4 HSZ
  go_wp2_with fail
  generalize w2.alloc (.cells #[.slice AU1 N.length CU1, .slice AU2 M2v.length CU2] TG) = w3 at *
  refine wp_region_st2 (by kernel_rfl) (YA10W B (W.heap.size + 1) (.slice AU1 N.length CU1) (.slice AU2 M2v.length CU2) a b E true) (GA10 w0 W B (W.heap.size + 1) (W.heap.size + 2) w2.heap.size S S2v k kd a b (.slice AU1 N.length CU1) (.slice AU2 M2v.length CU2) N M2v 6 9) ?F ?hF (by kernel_rfl) (by kernel_rfl) HAG.out.drew ?step ?fin
  case hF =>
    intro x
    simp only [List.map_cons, List.map_nil, putL, Act.put, List.setIfInBounds_toArray, List.set_cons_zero, List.set_cons_succ, Nat.zero_add, Nat.reduceAdd]
    exact rfl
  case step =>
    refine ⟨?_, ?_, ?_, ?_, ?_, ?_, ?_, ?_, ?_, ?_, ?_, trivial⟩
    all_goals intro L x W hL0 hd0 hG hdep K hK
    · have z0 := hG.var.c0
      have z1 := hG.var.c1
      clear hdep
      go_simp
      exact hK _ _ rfl (hG.quiet 0 (by decide) (by decide)) (fun _ _ h => h)
    · clear hdep
      go_simp
      exact hK _ _ rfl (hG.quiet 1 (by decide) (by decide)) (fun _ _ h => h)
    · clear hdep
      go_simp
      exact hK _ _ rfl (hG.quiet 2 (by decide) (by decide)) (fun _ _ h => h)
    · have h2 : x 2 = _ := hdep 2 rfl
      have y1 := hG.act.c1
      clear hdep
      simp only [h2] at hK
      go_simp
      exact hK _ _ rfl (hG.quiet 3 (by decide) (by decide)) (fun _ _ h => h)
    · clear hdep
      go_simp
      exact hK _ _ rfl (hG.quiet 4 (by decide) (by decide)) (fun _ _ h => h)
    · have h4 : x 4 = _ := hdep 4 rfl
      have y2 := hG.act.c2
      clear hdep
      simp only [h4] at hK
      go_simp
      exact hK _ _ rfl (hG.quiet 5 (by decide) (by decide)) (fun _ _ h => h)
    · have h1 : x 1 = _ := hdep 1 rfl
      have h3 : x 3 = _ := hdep 3 rfl
      have h5 : x 5 = _ := hdep 5 rfl
      have hL : L 6 = false := hL0
      have hG1 := hG
      unfold GA10 at hG1
      rw [hL] at hG1
      have HDD := Lib.hid (HDO.out W hG1.own)
      clear hdep
      simp only [h1, h3, h5] at hK
      go_simp
      refine HDD.out.mono ?_
      rintro e W' ⟨rfl, ho, hk⟩
      exact hK _ _ rfl (by unfold GA10; rw [show updL L 6 6 = true from if_pos rfl, show updL L 6 9 = L 9 from if_neg (by decide)]; exact hG1.deed ho hk) (fun _ _ h => h)
    · clear hdep
      go_simp
      exact hK _ _ rfl (hG.quiet 7 (by decide) (by decide)) (fun _ _ h => h)
    · have h6 : x 6 = _ := hdep 6 rfl
      have h7 : x 7 = _ := hdep 7 rfl
      clear hdep
      simp only [h6, h7] at hK
      go_simp
      exact hK _ _ rfl (hG.quiet 8 (by decide) (by decide)) (fun _ _ h => h)
    · have h0 : x 0 = _ := hdep 0 rfl
      have hL : L 9 = false := hL0
      have hG1 := hG
      unfold GA10 at hG1
      rw [hL] at hG1
      have r0 := hG1.res.c0
      have r1 := hG1.res.c1
      have rf0 := hG1.res.f0
      have rf1 := hG1.res.f1
      clear hdep
      simp only [h0] at hK
      go_simp
      exact hK undef _ trivial (by unfold GA10; rw [show updL L 9 9 = true from if_pos rfl, show updL L 9 6 = L 6 from if_neg (by decide)]; exact hG1.stored HS6.out HS1.out HNE.out) (fun _ _ h => h)
    · have h8 : x 8 = _ := hdep 8 rfl
      clear hdep
      simp only [h8] at hK
      go_simp
      exact hK _ _ rfl (hG.quiet 10 (by decide) (by decide)) (fun _ _ h => h)
  case fin =>
    intro L x W9 hall hG hY
    have e8 : x 10 = .bool true := hY 10 (by decide)
    have hG1 := hG
    unfold GA10 at hG1
    rw [hall 6 (by decide), hall 9 (by decide)] at hG1
    have HG := Lib.hid hG1
    have q0 := hG1.res.c0
    have q1 := hG1.res.c1
    simp only [if_true] at q0 q1
    clear hG hG1 hY hall HDO HAG
    simp only [e8]
    go_wp2
    refine bodyPost_ret (v := .tuple #[.agg #[.slice AU1 N.length CU1, .slice AU2 M2v.length CU2], .bool true]) ?_ rfl ⟨S2v, N, M2v, _, _, rfl, HG.out.own, HG.out.nm, HG.out.mb, hRel2.out, hML.out, HG.out.keep⟩
    simp [results, Try.results9, go_sem, q0, q1]

set_option maxRecDepth 100000 in
set_option maxHeartbeats 8000000 in
theorem do10_5 (w0 : World) (B : Nat) (S : Grs10) (k : Nat) (v1 v2 : Value) (N : List (List UInt8)) (M : List Who10) (kd : Nat) (a b : ByteArray) (W : World) (hO : Own10 w0 W B S k) (hk9 : k ≤ 800) (h1 : NmR W v1 N) (h2 : MbR W v2 M) (hRel : Rel10 S N M) (hM : M.length ≤ 900) (ha : a.size ≤ 50) (hb5 : b.size ≤ 50) (hkd : kd % 7 = 5) :
    Calls Try.prog 9 #[.pointer (some ⟨B, 0, none⟩), .agg #[v1, v2], .agg #[.int .u8 (kd : Int), .string a, .string b]] W (Did10 w0 B k M W) := by
  have hGood := hO.good
  have hN : N.length ≤ 900 := Nat.le_trans (hRel.six hGood) (by decide)
  have hrem : (kd : Int).tmod 7 = 5 := by
    have : (kd : Int).tmod 7 = ((kd % 7 : Nat) : Int) := rfl
    rw [this, hkd]; rfl
  have hRel2 : Hid (Rel10 (rmS10 S a.data.toList) (N) (rmM M a.data.toList)) := hRel.remove hGood _
  have hML : Hid ((rmM M a.data.toList).length ≤ M.length + 1) := Nat.le_succ_of_le (rmM_le M _)
  have HEC : Hid (((sortT (ofM M a.data.toList)).length : Nat) = (((of10 S a.data.toList).length : Nat) : Int)) := congrArg (fun l : List (List UInt8) => ((l.length : Nat) : Int)) (hRel.of_ hGood.rise _)
  have HRF : Hid (∀ W', Below W.heap.size W W' → Calls Try.prog 29 #[.agg #[v1, v2], .string a] W' (Doc10 (((sortT (ofM M a.data.toList)).length : Nat)) (N) (rmM M a.data.toList) W')) := fun W' hb => by
    have h1' := h1.later hb
    have h2' := h2.later hb
    revert h1' h2'
    generalize W' = W
    intro h1' h2'
    exact rremove10_calls v1 v2 N M a W hM h1' h2'
  have HDO : Hid (∀ W', Own10 w0 W' B S k → Calls Try.prog 21 #[.pointer (some ⟨B, 0, none⟩), .string a] W' fun e w' => e = .returned (.int .i64 (((sortT (ofM M a.data.toList)).length : Nat))) ∧ Own10 w0 w' B (rmS10 S a.data.toList) (k + 1) ∧ Keeps10 W' w') := fun W' h => by
    rw [HEC.out]
    exact (h.remove a (by omega)).mono fun e w' ⟨he, ho, hk⟩ => ⟨he, ho.mono (Nat.le_succ _), hk⟩
  obtain ⟨A1, c1, rfl⟩ := h1.shape
  obtain ⟨A, c, rfl⟩ := h2.shape
  have hb4 : Below W.heap.size W (W.alloc (.cells #[.slice A1 N.length c1, .slice A M.length c] TG)) := below_alloc (Below.refl _ _) _
  have hb45 := below_next hb4 (below_alloc (Below.refl (W.alloc (.cells #[.slice A1 N.length c1, .slice A M.length c] TG)).heap.size (W.alloc (.cells #[.slice A1 N.length c1, .slice A M.length c] TG))) (.cells #[.int .u8 (kd : Int), .string a, .string b] 32))
  have hac := actat10_new (W.alloc (.cells #[.slice A1 N.length c1, .slice A M.length c] TG)) kd a b
  rw [World.size_alloc] at hac
  have hbx := bx10_new ((W.alloc (.cells #[.slice A1 N.length c1, .slice A M.length c] TG)).alloc (.cells #[.int .u8 (kd : Int), .string a, .string b] 32)) (.slice none 0 0) (.slice none 0 0)
  rw [World.size_alloc, World.size_alloc] at hbx
  have hb6 := below_alloc (Below.refl ((W.alloc (.cells #[.slice A1 N.length c1, .slice A M.length c] TG)).alloc (.cells #[.int .u8 (kd : Int), .string a, .string b] 32)).heap.size ((W.alloc (.cells #[.slice A1 N.length c1, .slice A M.length c] TG)).alloc (.cells #[.int .u8 (kd : Int), .string a, .string b] 32))) (.cells #[.slice none 0 0, .slice none 0 0] TG)
  have hac6 := hac.later hb6
  have hb46 := below_next hb45 hb6
  have hv4 := (bx10_new W (.slice A1 N.length c1) (.slice A M.length c)).later ((below_next (below_alloc (Below.refl _ _) _) hb6))
  have HV4 := Lib.hid hv4
  have HAC := Lib.hid hac6
  have HBX := Lib.hid hbx
  have HB1 := Lib.hid hb46
  have HOW := Lib.hid (hO.later hb46)
  have HW0 : Hid (w0.heap.size ≤ W.heap.size) := hO.below.size
  have HSZ : Hid ((((W.alloc (.cells #[.slice A1 N.length c1, .slice A M.length c] TG)).alloc (.cells #[.int .u8 (kd : Int), .string a, .string b] 32)).alloc (.cells #[.slice none 0 0, .slice none 0 0] TG)).heap.size = W.heap.size + 3) := by show _ = _; simp
  clear hv4 hac hac6 hbx hb4 hb45 hb6 hb46 hO h1 h2 hRel hGood hkd
  generalize (((sortT (ofM M a.data.toList)).length : Nat)) = E at *
  generalize (rmS10 S a.data.toList) = S2v at *
  generalize (rmM M a.data.toList) = M2v at *
  clear HEC
  go_enter Try.func9, Try.ntmps9
  go_wp2_with fail
  generalize ((W.alloc (.cells #[.slice A1 N.length c1, .slice A M.length c] TG)).alloc (.cells #[.int .u8 (kd : Int), .string a, .string b] 32)).alloc (.cells #[.slice none 0 0, .slice none 0 0] TG) = w1 at *
  have HRW := Lib.hid (HRF.out w1 HB1.out)
  clear HRF
  with_reducible refine HRW.out.mono ?_
  rintro e w2 ⟨u1, u2, rfl, hu1, hu2, hb2⟩
  obtain ⟨AU1, CU1, rfl⟩ := hu1.shape
  obtain ⟨AU2, CU2, rfl⟩ := hu2.shape
  have hb8 : Below w2.heap.size w2 (w2.alloc (.cells #[.slice AU1 N.length CU1, .slice AU2 M2v.length CU2] TG)) := below_alloc (Below.refl _ _) _
  have hb28 := below_next hb2 hb8
  have HAG : Hid (Ac10 w0 W B (W.heap.size + 1) (W.heap.size + 2) w2.heap.size S S2v k kd a b (.slice AU1 N.length CU1) (.slice AU2 M2v.length CU2) N M2v false false (w2.alloc (.cells #[.slice AU1 N.length CU1, .slice AU2 M2v.length CU2] TG))) :=
    ⟨HOW.out.later hb28, HBX.out.later hb28, bx10_new _ _ _, HAC.out.later hb28, hu1.later hb8, hu2.later hb8, Keeps10.of_below (below_next HB1.out hb28)⟩
  have HNE : Hid (w2.heap.size ≠ W.heap.size + 2) := by have := HSZ.out; have := hb2.size; show w2.heap.size ≠ _; omega
  have HS1 : Hid (W.heap.size ≤ W.heap.size + 2) := by show W.heap.size ≤ _; omega
  have HS6 : Hid (w0.heap.size ≤ W.heap.size + 2) := Nat.le_trans HW0.out (by omega)
  have hl5 : W.heap.size + 1 < w2.heap.size := by have := HSZ.out; have := hb2.size; omega
  have y1 := (HAC.out.later hb2).c1
  have y2 := (HAC.out.later hb2).c2
  clear hb2 hb8 hb28 hu1 hu2 HRW HBX HAC HOW HV4 HSZ
  go_wp2_with fail
  generalize w2.alloc (.cells #[.slice AU1 N.length CU1, .slice AU2 M2v.length CU2] TG) = w3 at *
  refine wp_region_st2 (by kernel_rfl) (YA10W B (W.heap.size + 1) (.slice AU1 N.length CU1) (.slice AU2 M2v.length CU2) a b E false) (GA10 w0 W B (W.heap.size + 1) (W.heap.size + 2) w2.heap.size S S2v k kd a b (.slice AU1 N.length CU1) (.slice AU2 M2v.length CU2) N M2v 4 7) ?F ?hF (by kernel_rfl) (by kernel_rfl) HAG.out.drew ?step ?fin
  case hF =>
    intro x
    simp only [List.map_cons, List.map_nil, putL, Act.put, List.setIfInBounds_toArray, List.set_cons_zero, List.set_cons_succ, Nat.zero_add, Nat.reduceAdd]
    exact rfl
  case step =>
    refine ⟨?_, ?_, ?_, ?_, ?_, ?_, ?_, ?_, ?_, trivial⟩
    all_goals intro L x W hL0 hd0 hG hdep K hK
    · have z0 := hG.var.c0
      have z1 := hG.var.c1
      clear hdep
      go_simp
      exact hK _ _ rfl (hG.quiet 0 (by decide) (by decide)) (fun _ _ h => h)
    · clear hdep
      go_simp
      exact hK _ _ rfl (hG.quiet 1 (by decide) (by decide)) (fun _ _ h => h)
    · clear hdep
      go_simp
      exact hK _ _ rfl (hG.quiet 2 (by decide) (by decide)) (fun _ _ h => h)
    · have h2 : x 2 = _ := hdep 2 rfl
      have y1 := hG.act.c1
      clear hdep
      simp only [h2] at hK
      go_simp
      exact hK _ _ rfl (hG.quiet 3 (by decide) (by decide)) (fun _ _ h => h)
    · have h1 : x 1 = _ := hdep 1 rfl
      have h3 : x 3 = _ := hdep 3 rfl
      have hL : L 4 = false := hL0
      have hG1 := hG
      unfold GA10 at hG1
      rw [hL] at hG1
      have HDD := Lib.hid (HDO.out W hG1.own)
      clear hdep
      simp only [h1, h3] at hK
      go_simp
      refine HDD.out.mono ?_
      rintro e W' ⟨rfl, ho, hk⟩
      exact hK _ _ rfl (by unfold GA10; rw [show updL L 4 4 = true from if_pos rfl, show updL L 4 7 = L 7 from if_neg (by decide)]; exact hG1.deed ho hk) (fun _ _ h => h)
    · clear hdep
      go_simp
      exact hK _ _ rfl (hG.quiet 5 (by decide) (by decide)) (fun _ _ h => h)
    · have h4 : x 4 = _ := hdep 4 rfl
      have h5 : x 5 = _ := hdep 5 rfl
      clear hdep
      simp only [h4, h5] at hK
      go_simp
      exact hK _ _ rfl (hG.quiet 6 (by decide) (by decide)) (fun _ _ h => h)
    · have h0 : x 0 = _ := hdep 0 rfl
      have hL : L 7 = false := hL0
      have hG1 := hG
      unfold GA10 at hG1
      rw [hL] at hG1
      have r0 := hG1.res.c0
      have r1 := hG1.res.c1
      have rf0 := hG1.res.f0
      have rf1 := hG1.res.f1
      clear hdep
      simp only [h0] at hK
      go_simp
      exact hK undef _ trivial (by unfold GA10; rw [show updL L 7 7 = true from if_pos rfl, show updL L 7 4 = L 4 from if_neg (by decide)]; exact hG1.stored HS6.out HS1.out HNE.out) (fun _ _ h => h)
    · have h6 : x 6 = _ := hdep 6 rfl
      clear hdep
      simp only [h6] at hK
      go_simp
      exact hK _ _ rfl (hG.quiet 8 (by decide) (by decide)) (fun _ _ h => h)
  case fin =>
    intro L x W9 hall hG hY
    have e8 : x 8 = .bool true := hY 8 (by decide)
    have hG1 := hG
    unfold GA10 at hG1
    rw [hall 4 (by decide), hall 7 (by decide)] at hG1
    have HG := Lib.hid hG1
    have q0 := hG1.res.c0
    have q1 := hG1.res.c1
    simp only [if_true] at q0 q1
    clear hG hG1 hY hall HDO HAG
    simp only [e8]
    go_wp2
    refine bodyPost_ret (v := .tuple #[.agg #[.slice AU1 N.length CU1, .slice AU2 M2v.length CU2], .bool true]) ?_ rfl ⟨S2v, N, M2v, _, _, rfl, HG.out.own, HG.out.nm, HG.out.mb, hRel2.out, hML.out, HG.out.keep⟩
    simp [results, Try.results9, go_sem, q0, q1]

set_option maxRecDepth 100000 in
set_option maxHeartbeats 8000000 in
theorem do10_6 (w0 : World) (B : Nat) (S : Grs10) (k : Nat) (v1 v2 : Value) (N : List (List UInt8)) (M : List Who10) (kd : Nat) (a b : ByteArray) (W : World) (hO : Own10 w0 W B S k) (hk9 : k ≤ 800) (h1 : NmR W v1 N) (h2 : MbR W v2 M) (hRel : Rel10 S N M) (hM : M.length ≤ 900) (ha : a.size ≤ 50) (hb5 : b.size ≤ 50) (hkd : kd % 7 = 6) :
    Calls Try.prog 9 #[.pointer (some ⟨B, 0, none⟩), .agg #[v1, v2], .agg #[.int .u8 (kd : Int), .string a, .string b]] W (Did10 w0 B k M W) := by
  have hrem : (kd : Int).tmod 7 = 6 := by
    have : (kd : Int).tmod 7 = ((kd % 7 : Nat) : Int) := rfl
    rw [this, hkd]; rfl
  obtain ⟨A1, c1, rfl⟩ := h1.shape
  obtain ⟨A, c, rfl⟩ := h2.shape
  have hb4 : Below W.heap.size W (W.alloc (.cells #[.slice A1 N.length c1, .slice A M.length c] TG)) := below_alloc (Below.refl _ _) _
  have hb45 := below_next hb4 (below_alloc (Below.refl (W.alloc (.cells #[.slice A1 N.length c1, .slice A M.length c] TG)).heap.size (W.alloc (.cells #[.slice A1 N.length c1, .slice A M.length c] TG))) (.cells #[.int .u8 (kd : Int), .string a, .string b] 32))
  have hac := actat10_new (W.alloc (.cells #[.slice A1 N.length c1, .slice A M.length c] TG)) kd a b
  rw [World.size_alloc] at hac
  have hbx := bx10_new ((W.alloc (.cells #[.slice A1 N.length c1, .slice A M.length c] TG)).alloc (.cells #[.int .u8 (kd : Int), .string a, .string b] 32)) (.slice none 0 0) (.slice none 0 0)
  rw [World.size_alloc, World.size_alloc] at hbx
  have hb5' := below_alloc (Below.refl (W.alloc (.cells #[.slice A1 N.length c1, .slice A M.length c] TG)).heap.size (W.alloc (.cells #[.slice A1 N.length c1, .slice A M.length c] TG))) (.cells #[.int .u8 (kd : Int), .string a, .string b] 32)
  have hb6 := below_alloc (Below.refl ((W.alloc (.cells #[.slice A1 N.length c1, .slice A M.length c] TG)).alloc (.cells #[.int .u8 (kd : Int), .string a, .string b] 32)).heap.size ((W.alloc (.cells #[.slice A1 N.length c1, .slice A M.length c] TG)).alloc (.cells #[.int .u8 (kd : Int), .string a, .string b] 32))) (.cells #[.slice none 0 0, .slice none 0 0] TG)
  have hac6 := hac.later hb6
  have hb46 := below_next hb45 hb6
  have hv4 := (bx10_new W (.slice A1 N.length c1) (.slice A M.length c)).later (below_next hb5' hb6)
  have HV4 := Lib.hid hv4
  have HAC := Lib.hid hac6
  have HBX := Lib.hid hbx
  have HB1 := Lib.hid hb46
  have HOW := Lib.hid (hO.later hb46)
  have HH1 := Lib.hid (h1.later hb46)
  have HH2 := Lib.hid (h2.later hb46)
  have HRL := Lib.hid hRel
  have HW0 : Hid (w0.heap.size ≤ W.heap.size) := hO.below.size
  clear hv4 hac hac6 hbx hb4 hb45 hb5' hb6 hb46 hO h1 h2 hRel hkd
  go_enter Try.func9, Try.ntmps9
  go_wp2_with fail
  generalize ((W.alloc (.cells #[.slice A1 N.length c1, .slice A M.length c] TG)).alloc (.cells #[.int .u8 (kd : Int), .string a, .string b] 32)).alloc (.cells #[.slice none 0 0, .slice none 0 0] TG) = w1 at *
  have HCP := Lib.hid HOW.out.copy
  with_reducible refine HCP.out.mono ?_
  rintro e w2 ⟨c2, rfl, hc2⟩
  have HC2 := Lib.hid hc2
  have HM2 := Lib.hid (hc2.make ⟨#[100, 101, 118]⟩ (by decide))
  have y2 := (HAC.out.later hc2.below).c2
  clear hc2 HCP
  go_wp2_with fail
  with_reducible refine HM2.out.mono ?_
  rintro e w3 ⟨rfl, hc3, _⟩
  have HJ3 := Lib.hid (hc3.join (by omega) ⟨#[100, 101, 118]⟩ b (by decide) (by omega))
  have y2 := (HAC.out.later hc3.below).c2
  clear hc3 HM2 HC2
  generalize maE10 S (ByteArray.mk #[100, 101, 118]).data.toList = r3 at *
  go_wp2_with fail
  with_reducible refine HJ3.out.mono ?_
  rintro e w4 ⟨rfl, hc4, _⟩
  have HD4 := Lib.hid (hc4.drop a (by omega))
  have y1 := (HAC.out.later hc4.below).c1
  clear hc4 HJ3 y2
  generalize joE10 (maS10 S (ByteArray.mk #[100, 101, 118]).data.toList) (ByteArray.mk #[100, 101, 118]).data.toList b.data.toList = r4 at *
  go_wp2_with fail
  with_reducible refine HD4.out.mono ?_
  rintro e w5 ⟨rfl, hc5, _⟩
  have HB5 := Lib.hid hc5.below
  clear hc5 HD4 y1
  have hx := HV4.out.later HB5.out
  have hr := HBX.out.later HB5.out
  have k0 := hx.c0
  have k1 := hx.c1
  have r0 := hr.c0
  have r1 := hr.c1
  have rf0 := hr.f0
  have rf1 := hr.f1
  have HS6 : Hid (w0.heap.size ≤ W.heap.size + 2) := Nat.le_trans HW0.out (by omega)
  have HKG : Hid (KeepG w5 ((w5.setCell ⟨W.heap.size + 2, 0, none⟩ (.slice A1 N.length c1)).setCell ⟨W.heap.size + 2, 1, none⟩ (.slice A M.length c))) := (hr.keep 0 _).trans ((hr.set0 _).keep 1 _)
  have HRES : Hid (Bx10 ((w5.setCell ⟨W.heap.size + 2, 0, none⟩ (.slice A1 N.length c1)).setCell ⟨W.heap.size + 2, 1, none⟩ (.slice A M.length c)) (W.heap.size + 2) (.slice A1 N.length c1) (.slice A M.length c)) := (hr.set0 _).set1 _
  have HOF : Hid (Own10 w0 ((w5.setCell ⟨W.heap.size + 2, 0, none⟩ (.slice A1 N.length c1)).setCell ⟨W.heap.size + 2, 1, none⟩ (.slice A M.length c)) B S (k + 1)) := (((HOW.out.later HB5.out).cell hr HS6.out _).cell (hr.set0 _) HS6.out _).mono (Nat.le_succ k)
  have HKP : Hid (Keeps10 W ((w5.setCell ⟨W.heap.size + 2, 0, none⟩ (.slice A1 N.length c1)).setCell ⟨W.heap.size + 2, 1, none⟩ (.slice A M.length c))) := ((Keeps10.of_below (below_next HB1.out HB5.out)).cellN (by omega) _).cellN (by omega) _
  clear hx hr
  generalize drE10 (joS10 (maS10 S (ByteArray.mk #[100, 101, 118]).data.toList) (ByteArray.mk #[100, 101, 118]).data.toList b.data.toList) a.data.toList = r5 at *
  go_wp2
  have q0 := HRES.out.c0
  have q1 := HRES.out.c1
  refine bodyPost_ret (v := .tuple #[.agg #[.slice A1 N.length c1, .slice A M.length c], .bool true]) ?_ rfl ⟨S, N, M, _, _, rfl, HOF.out, (HH1.out.later HB5.out).keepG HKG.out, (HH2.out.later HB5.out).keepG HKG.out, HRL.out, Nat.le_succ _, HKP.out⟩
  simp [results, Try.results9, go_sem, q0, q1]

theorem do10_calls (w0 : World) (B : Nat) (S : Grs10) (k : Nat) (v1 v2 : Value) (N : List (List UInt8)) (M : List Who10) (kd : Nat) (a b : ByteArray) (W : World) (hO : Own10 w0 W B S k) (hk9 : k ≤ 800) (h1 : NmR W v1 N) (h2 : MbR W v2 M) (hRel : Rel10 S N M) (hM : M.length ≤ 900) (ha : a.size ≤ 50) (hb5 : b.size ≤ 50) :
    Calls Try.prog 9 #[.pointer (some ⟨B, 0, none⟩), .agg #[v1, v2], .agg #[.int .u8 (kd : Int), .string a, .string b]] W (Did10 w0 B k M W) := by
  have h7 : kd % 7 = 0 ∨ kd % 7 = 1 ∨ kd % 7 = 2 ∨ kd % 7 = 3 ∨ kd % 7 = 4 ∨ kd % 7 = 5 ∨ kd % 7 = 6 := by omega
  rcases h7 with h | h | h | h | h | h | h
  · exact do10_0 w0 B S k v1 v2 N M kd a b W hO hk9 h1 h2 hRel hM ha hb5 h
  · exact do10_1 w0 B S k v1 v2 N M kd a b W hO hk9 h1 h2 hRel hM ha hb5 h
  · exact do10_2 w0 B S k v1 v2 N M kd a b W hO hk9 h1 h2 hRel hM ha hb5 h
  · exact do10_3 w0 B S k v1 v2 N M kd a b W hO hk9 h1 h2 hRel hM ha hb5 h
  · exact do10_4 w0 B S k v1 v2 N M kd a b W hO hk9 h1 h2 hRel hM ha hb5 h
  · exact do10_5 w0 B S k v1 v2 N M kd a b W hO hk9 h1 h2 hRel hM ha hb5 h
  · exact do10_6 w0 B S k v1 v2 N M kd a b W hO hk9 h1 h2 hRel hM ha hb5 h
end Go.Proofs.Ytmjmglakpnjfkaa
