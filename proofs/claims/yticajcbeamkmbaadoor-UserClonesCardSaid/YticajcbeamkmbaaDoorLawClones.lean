/-
  UserClones walked: a clone is the same, in memory of its own; users are the same just if all fields are.
  Conditions: texts and rows are no longer than they may be; the library's own variable MaxLen holds some number.
-/
import Derived.Test.YticajcbeamkmbaaDoorUserH
namespace Go.Proofs.YticajcbeamkmbaaDoor
open Go.RowKit

/-- A text with an x behind it. -/
def addx (s : ByteArray) : ByteArray := ⟨(s.data.toList ++ [120]).toArray⟩
theorem addx_ne (s : ByteArray) : s ≠ addx s := by
  intro e
  have h1 := congrArg ByteArray.size e
  have h2 : (addx s).size = s.size + 1 := by
    show (s.data.toList ++ [120]).toArray.size = _
    rw [List.size_toArray, List.length_append, size_list]
    rfl
  omega
theorem addx_run (s : ByteArray) (h : s.size ≤ 1000) (W : World) : (Op.stringOp .add s ⟨#[120]⟩).run Tryd.prog W = .ok (.string (addx s)) W := by
  have e : s = ⟨s.data.toList.toArray⟩ := rfl
  rw [run_string_add_sum W _ _ (by show s.size + 1 ≤ _; omega)]
  rfl
/-- The first so many have it. -/
def mix (gs : List ByteArray) (k : Nat) : List ByteArray := (gs.take k).map addx ++ gs.drop k
theorem mix_length (gs : List ByteArray) (k : Nat) (h : k ≤ gs.length) : (mix gs k).length = gs.length := by
  unfold mix
  rw [List.length_append, List.length_map, List.length_take, List.length_drop]
  omega
theorem mix_zero (gs : List ByteArray) : mix gs 0 = gs := by simp [mix]
theorem mix_full (gs : List ByteArray) : mix gs gs.length = gs.map addx := by simp [mix]
theorem mix_at (gs : List ByteArray) (k : Nat) (h : k < gs.length) : (mix gs k)[k]? = some gs[k] := by
  unfold mix
  have hl : ((gs.take k).map addx).length = k := by rw [List.length_map, List.length_take]; omega
  rw [List.getElem?_append_right (by omega), hl, Nat.sub_self, List.getElem?_drop, Nat.add_zero, List.getElem?_eq_getElem h]
theorem mix_next (gs : List ByteArray) (k : Nat) (h : k < gs.length) : (mix gs k).set k (addx gs[k]) = mix gs (k + 1) := by
  unfold mix
  have hl : ((gs.take k).map addx).length = k := by rw [List.length_map, List.length_take]; omega
  rw [List.set_append_right _ _ (by omega), hl, Nat.sub_self, List.drop_eq_getElem_cons h, List.set_cons_zero, List.take_succ_eq_append_getElem h, List.map_append, List.append_assoc]
  rfl

/-- A row of one's own, one cell of which is stored. -/
theorem owns_store {w : World} {b0 g n cap : Nat} {e : TypeId} {xs : List Value} (ho : w.ownsRow b0 e 1 (.slice (some ⟨g, 0, none⟩) n cap) n xs) (k : Nat) (u : Value) :
    (w.setCell ⟨g, k, none⟩ u).ownsRow b0 e 1 (.slice (some ⟨g, 0, none⟩) n cap) n (xs.set k u) := by
  refine ⟨by rw [List.length_set]; exact ho.1, ?_⟩
  rcases ho.2 with ⟨h0, _⟩ | ⟨g', cap', cur, hv, hb, hg, h1, h2, h3, h4⟩
  · cases h0
  · injection hv with ha _ hc
    injection ha with ha
    injection ha with ha
    subst ha hc
    refine .inr ⟨g, cap, cur.setIfInBounds k u, rfl, hb, ?_, h1, h2, by rw [Array.size_setIfInBounds]; exact h3, ?_⟩
    · simp [World.setCell, Array.getElem?_modify, hg]
    · rw [Array.toList_setIfInBounds, List.take_set, h4]
theorem owns_facts {w : World} {b0 n c : Nat} {A : Option Addr} {gs : List ByteArray} (ho : w.ownsRow b0 9 1 (.slice A n c) n (gs.map Value.string)) (hn : n = gs.length) : RdS w A gs ∧ (A = none → c = 0) ∧ n ≤ c ∧ c ≤ 9223372036854775807 := by
  subst hn
  rcases ho.2 with ⟨h0, h1⟩ | ⟨g, cap, cur, hv, hb, hg, h1, h2, h3, h4⟩
  · injection h0 with ha _ hc
    subst ha hc
    have : gs = [] := List.eq_nil_of_length_eq_zero h1
    subst this
    exact ⟨fun e => absurd rfl e, fun _ => rfl, Nat.zero_le _, Nat.zero_le _⟩
  · injection hv with ha _ hc
    subst ha hc
    refine ⟨fun _ => ⟨g, 0, rfl, (Array.getElem?_eq_some_iff.1 hg).1, fun j hj => ?_⟩, (fun h => nomatch h), h1, by simpa [maxLen] using h2⟩
    have := ho.cells (g := g) rfl j (.string gs[j]) (by simp [hj])
    rw [Addr.add_lit, Nat.zero_add] at this
    rw [Nat.zero_add]
    exact this

/-- The loop's state: two users' blocks, and the clone's row. -/
structure Lp6 (w : World) (B B5 : Nat) (a u : Us) (xs : List ByteArray) (W : World) : Prop where
  bel : Below w.heap.size w W
  ua : UsB W B a
  uc : UsB W B5 u
  row : W.ownsRow w.heap.size 9 1 (.slice u.ga u.gs.length u.gc) u.gs.length (xs.map Value.string)
theorem Lp6.below {w W W' : World} {B B5 : Nat} {a u : Us} {xs : List ByteArray} (h : Lp6 w B B5 a u xs W) (hb : Below W.heap.size W W') : Lp6 w B B5 a u xs W' :=
  ⟨below_next h.bel hb, h.ua.below hb, h.uc.below hb, owns_turns (b1 := w.heap.size) h.row (Nat.le_refl _) (Turns.of_below hb (fun _ => False)) (fun _ _ f => f)⟩
theorem Lp6.store {w W : World} {B B5 g : Nat} {a u : Us} {xs : List ByteArray} (h : Lp6 w B B5 a u xs W) (hga : u.ga = some ⟨g, 0, none⟩) (k : Nat) (s : ByteArray) :
    Lp6 w B B5 a u (xs.set k s) (W.setCell ⟨g, k, none⟩ (.string s)) ∧ W.frozen? ⟨g, k, none⟩ = false := by
  have ho := h.row
  rw [hga] at ho
  have hg : ∃ cur, W.heap[g]? = some (.cells cur 9) ∧ w.heap.size ≤ g := by
    rcases ho.2 with ⟨h0, _⟩ | ⟨g', cap', cur, hv, hb, hg, _⟩
    · cases h0
    · injection hv with ha _ hc
      injection ha with ha
      injection ha with ha
      subst ha
      exact ⟨cur, hg, hb⟩
  obtain ⟨cur, hg, hb⟩ := hg
  have hne : ∀ C v, UsB W C v → C ≠ g := fun C v hC e => by
    subst e
    have := hC.symm.trans hg
    simp at this
  refine ⟨⟨?_, ?_, ?_, ?_⟩, ?_⟩
  · exact h.bel.trans (((Turns.refl (fun i => i = g) W).setCell (fun _ => rfl) _).below_at h.bel.size (fun i hi => by subst hi; exact hb))
  · exact (Below.heap_setCell _ _ _ _ (hne B a h.ua)).trans h.ua
  · exact (Below.heap_setCell _ _ _ _ (hne B5 u h.uc)).trans h.uc
  · have := owns_store ho k (.string s)
    rw [hga, List.map_set]
    exact this
  · simp [World.frozen?, hg]

theorem sameU_comm (a b : Us) : sameU b a = sameU a b := by
  unfold sameU
  simp only [eq_comm]
/-- What each operation makes. -/
def YCl4 (q : Bool) (a b u : Us) : Nat → Value → World → Prop
  | 0, v, _ => v = a.v
  | 1, v, _ => v = u.v
  | 2, v, _ => v = .bool true
  | 3, v, _ => v = .bool false
  | 4, v, _ => v = .bool false
  | 5, v, _ => v = a.v
  | 6, v, _ => v = b.v
  | 7, v, _ => v = .bool q
  | 8, v, _ => v = a.v
  | 9, v, _ => v = b.v
  | 10, v, _ => v = .bool q
  | 11, v, _ => v = .bool false
  | 12, v, _ => v = .bool false
  | 13, v, _ => v = .bool false
  | 14, v, _ => v = b.v
  | 15, v, _ => v = a.v
  | 16, v, _ => v = .bool q
  | 17, v, _ => v = a.v
  | 18, v, _ => v = b.v
  | 19, v, _ => v = .bool q
  | 20, v, _ => v = .bool false
  | _, v, _ => v = .bool false
theorem YCl4_keep {q : Bool} {a b u : Us} {W W' : World} (j : Nat) (z : Value) (h : YCl4 q a b u j z W) : YCl4 q a b u j z W' := by
  match j, h with
  | 0, h => exact h
  | 1, h => exact h
  | 2, h => exact h
  | 3, h => exact h
  | 4, h => exact h
  | 5, h => exact h
  | 6, h => exact h
  | 7, h => exact h
  | 8, h => exact h
  | 9, h => exact h
  | 10, h => exact h
  | 11, h => exact h
  | 12, h => exact h
  | 13, h => exact h
  | 14, h => exact h
  | 15, h => exact h
  | 16, h => exact h
  | 17, h => exact h
  | 18, h => exact h
  | 19, h => exact h
  | 20, h => exact h
  | _ + 21, h => exact h
/-- What each operation makes. -/
def YCl11 (q : Bool) (B : Nat) (a u : Us) : Nat → Value → World → Prop
  | 0, v, _ => v = a.v
  | 1, v, _ => v = u.v
  | 2, v, _ => v = .bool q
  | 3, v, _ => v = .pointer (some ⟨B, 4, none⟩)
  | 4, v, _ => v = .slice a.ga a.gs.length a.gc
  | 5, v, _ => v = .int .i64 (a.gs.length : Int)
  | 6, v, _ => v = .bool q
  | 7, v, _ => v = .bool true
  | _, v, _ => v = .bool true
theorem YCl11_keep {q : Bool} {B : Nat} {a u : Us} {W W' : World} (j : Nat) (z : Value) (h : YCl11 q B a u j z W) : YCl11 q B a u j z W' := by
  match j, h with
  | 0, h => exact h
  | 1, h => exact h
  | 2, h => exact h
  | 3, h => exact h
  | 4, h => exact h
  | 5, h => exact h
  | 6, h => exact h
  | 7, h => exact h
  | _ + 8, h => exact h

set_option maxRecDepth 100000 in
set_option maxHeartbeats 4000000 in
theorem clones_walk (a b : Us) (w : World) (ha : a.Ok w) (hb : b.Ok w) (hm : Len5 w) :
    Calls Tryd.prog 4 #[a.v, b.v] w (Tells5 true w) := by
  have hnot : ∀ (x : Bool) (w : World), (Op.unary .not (.bool x)).run Tryd.prog w = .ok (.bool (!x)) w := fun _ _ => rfl
  have HB0 := Lib.hid (below_alloc (below_alloc (Below.refl w.heap.size w) (.cells a.cells 24)) (.cells b.cells 24))
  have HA0 : Hid (UsB ((w.alloc (.cells a.cells 24)).alloc (.cells b.cells 24)) w.heap.size a) := (UsB.new w a).below (below_alloc (Below.refl _ _) _)
  have HB0b : Hid (UsB ((w.alloc (.cells a.cells 24)).alloc (.cells b.cells 24)) (w.heap.size + 1) b) := by
    have h := UsB.new (w.alloc (.cells a.cells 24)) b
    rw [show (w.alloc (.cells a.cells 24)).heap.size = w.heap.size + 1 by simp] at h
    exact Lib.hid h
  have HV : Hid (∀ W, Below w.heap.size w W → Calls Tryd.prog 6 #[] W (Tells5 true W)) := fun W hb => lives6_calls W (hm.later hb)
  have HFa : Hid (∀ W, Below w.heap.size w W → Calls Tryd.prog 7 #[a.v] W (Tells5 (fewU a) W)) := fun W hb => few6U_calls a W (ha.below hb)
  have HFb : Hid (∀ W, Below w.heap.size w W → Calls Tryd.prog 7 #[b.v] W (Tells5 (fewU b) W)) := fun W hW => few6U_calls b W (hb.below hW)
  have HCL : Hid (∀ W, Below w.heap.size w W → a.gs.length ≤ 1000 → Calls Tryd.prog 17 #[a.v] W _) := fun W hb hl => clone6_calls a W (ha.below hb) hl
  have HSab : Hid (∀ W, Below w.heap.size w W → Calls Tryd.prog 18 #[a.v, b.v] W (Tells5 (sameU a b) W)) := fun W hW => same6_calls a b W (ha.below hW) (hb.below hW)
  have HSba : Hid (∀ W, Below w.heap.size w W → Calls Tryd.prog 18 #[b.v, a.v] W (Tells5 (sameU a b) W)) := fun W hW => by
    have := same6_calls b a W (hb.below hW) (ha.below hW)
    rw [sameU_comm] at this
    exact this
  have HRab : Hid (∀ W, Below w.heap.size w W → Calls Tryd.prog 16 #[a.v, b.v] W (Tells5 (sameU a b) W)) := fun W hW => rsame6_calls a b W (ha.below hW) (hb.below hW)
  have HSC : Hid (∀ (A2 : Option Addr) (c2 : Nat) (xs : List ByteArray) W, Below w.heap.size w W → W.ownsRow w.heap.size 9 1 (.slice A2 a.gs.length c2) a.gs.length (xs.map Value.string) → xs.length = a.gs.length → (∀ s ∈ xs, s.size ≤ 9223372036854775807) → Calls Tryd.prog 18 #[a.v, Us.v { a with ga := A2, gs := xs, gc := c2 }] W (Tells5 (decide (a.gs = xs)) W)) := fun A2 c2 xs W hW ho hx hs => by
    have hf := owns_facts (gs := xs) ho hx.symm
    have := same6_calls a { a with ga := A2, gs := xs, gc := c2 } W (ha.below hW) ⟨hf.1, ha.nm, ha.hs, ha.ml, hf.2.1, by show xs.length ≤ c2; rw [hx]; exact hf.2.2.1, hf.2.2.2, hs⟩
    have e : sameU a { a with ga := A2, gs := xs, gc := c2 } = decide (a.gs = xs) := by simp [sameU]
    rw [e] at this
    exact this
  have HFC : Hid (fewU a = true → a.gs.length ≤ 20 ∧ ∀ g ∈ a.gs, g.size ≤ 400) := fun h => ⟨(fewU_facts h).2.2.2.1, (fewU_facts h).2.2.2.2⟩
  clear ha hb hm
  unfold Us.v at *
  unfold Us.cells at *
  obtain ⟨nm, hs, ml, dis, A, gs, c⟩ := a
  obtain ⟨nm', hs', ml', dis', A', gs', c'⟩ := b
  dsimp only at *
  generalize fewU ⟨nm, hs, ml, dis, A, gs, c⟩ = q1 at *
  generalize fewU ⟨nm', hs', ml', dis', A', gs', c'⟩ = q2 at *
  generalize sameU ⟨nm, hs, ml, dis, A, gs, c⟩ ⟨nm', hs', ml', dis', A', gs', c'⟩ = q at *
  go_enter Tryd.func4, Tryd.ntmps4
  go_wp2_with fail
  generalize (w.alloc (.cells #[.string nm, .string hs, .string ml, .bool dis, .slice A gs.length c] 24)).alloc (.cells #[.string nm', .string hs', .string ml', .bool dis', .slice A' gs'.length c'] 24) = w1 at *
  with_reducible refine (HV.out w1 HB0.out).mono ?_
  rintro e w2 ⟨rfl, hb⟩
  have HA2 := Lib.hid (HA0.out.below hb)
  have HB2b := Lib.hid (HB0b.out.below hb)
  have HB2 := Lib.hid (below_next HB0.out hb)
  clear hb HA0 HB0 HB0b
  have c0 : _ = some (.string nm : Value) := HA2.out.at_.c0
  have c1 : _ = some (.string hs : Value) := HA2.out.at_.c1
  have c2 : _ = some (.string ml : Value) := HA2.out.at_.c2
  have c3 : _ = some (.bool dis : Value) := HA2.out.at_.c3
  have c4 : _ = some (.slice A gs.length c : Value) := HA2.out.at_.c4
  go_wp2_with fail
  with_reducible refine (HFa.out w2 HB2.out).mono ?_
  rintro e w3 ⟨rfl, hb⟩
  have HA3 := Lib.hid (HA2.out.below hb)
  have HB3b := Lib.hid (HB2b.out.below hb)
  have HB3 := Lib.hid (below_next HB2.out hb)
  clear hb HA2 HB2 HB2b HFa c0 c1 c2 c3 c4
  cases q1 with
  | false =>
    go_wp2_with fail
    with_reducible refine (HV.out w3 HB3.out).mono ?_
    rintro e w4 ⟨rfl, hb⟩
    have HB4 := Lib.hid (below_next HB3.out hb)
    clear hb
    go_wp2
    go_ret
    exact ⟨rfl, HB4.out⟩
  | true =>
    have hfc := HFC.out rfl
    have hgl := hfc.1
    have HGS := Lib.hid hfc.2
    clear hfc HFC
    have c0 : _ = some (.string nm' : Value) := HB3b.out.at_.c0
    have c1 : _ = some (.string hs' : Value) := HB3b.out.at_.c1
    have c2 : _ = some (.string ml' : Value) := HB3b.out.at_.c2
    have c3 : _ = some (.bool dis' : Value) := HB3b.out.at_.c3
    have c4 : _ = some (.slice A' gs'.length c' : Value) := HB3b.out.at_.c4
    go_wp2_with fail
    with_reducible refine (HFb.out w3 HB3.out).mono ?_
    rintro e w4 ⟨rfl, hb⟩
    have HA4 := Lib.hid (HA3.out.below hb)
    have HB4b := Lib.hid (HB3b.out.below hb)
    have HB4 := Lib.hid (below_next HB3.out hb)
    clear hb HA3 HB3 HB3b HFb c0 c1 c2 c3 c4
    cases q2 with
    | false =>
      go_wp2_with fail
      with_reducible refine (HV.out w4 HB4.out).mono ?_
      rintro e w5 ⟨rfl, hb⟩
      have HB5 := Lib.hid (below_next HB4.out hb)
      clear hb
      go_wp2
      go_ret
      exact ⟨rfl, HB5.out⟩
    | true =>
      have HCL4 := Lib.hid (HCL.out w4 HB4.out (by omega))
      clear HCL HV
      have c0 : _ = some (.string nm : Value) := HA4.out.at_.c0
      have c1 : _ = some (.string hs : Value) := HA4.out.at_.c1
      have c2 : _ = some (.string ml : Value) := HA4.out.at_.c2
      have c3 : _ = some (.bool dis : Value) := HA4.out.at_.c3
      have c4 : _ = some (.slice A gs.length c : Value) := HA4.out.at_.c4
      go_wp2_with fail
      with_reducible refine HCL4.out.mono ?_
      rintro e w5 ⟨A2, c2', rfl, ho, hb⟩
      have hb6 := below_alloc (Below.refl w5.heap.size w5) (.cells #[.string nm, .string hs, .string ml, .bool dis, .slice A2 gs.length c2'] 24)
      have hC6 : UsB (w5.alloc (.cells #[.string nm, .string hs, .string ml, .bool dis, .slice A2 gs.length c2'] 24)) w5.heap.size ⟨nm, hs, ml, dis, A2, gs, c2'⟩ := heap_alloc_new w5 _
      have hLp : Lp6 w w.heap.size w5.heap.size ⟨nm, hs, ml, dis, A, gs, c⟩ ⟨nm, hs, ml, dis, A2, gs, c2'⟩ gs (w5.alloc (.cells #[.string nm, .string hs, .string ml, .bool dis, .slice A2 gs.length c2'] 24)) :=
        ⟨below_next (below_next HB4.out hb) hb6, (HA4.out.below hb).below hb6, hC6, owns_turns (b1 := w.heap.size) ho HB4.out.size (Turns.of_below hb6 (fun _ => False)) (fun _ _ f => f)⟩
      have HL6 := Lib.hid hLp
      have HB6b := Lib.hid ((HB4b.out.below hb).below hb6).at_
      have HA6 := Lib.hid hLp.ua.at_
      have HC6 := Lib.hid hLp.uc.at_
      have HB6 := Lib.hid hLp.bel
      clear hb ho hb6 hC6 hLp HA4 HB4 HB4b HCL4 c0 c1 c2 c3 c4
      go_wp2_with fail
      generalize w5.alloc (.cells #[.string nm, .string hs, .string ml, .bool dis, .slice A2 gs.length c2'] 24) = w6 at *
      generalize w5.heap.size = B5 at *
      have HSac : Hid (∀ W, Below w.heap.size w W → Below w6.heap.size w6 W → Calls Tryd.prog 18 #[.agg #[.string nm, .string hs, .string ml, .bool dis, .slice A gs.length c], .agg #[.string nm, .string hs, .string ml, .bool dis, .slice A2 gs.length c2']] W (Tells5 true W)) := fun W hW hb => by
        have := HSC.out A2 c2' gs W hW (owns_turns (b1 := w.heap.size) HL6.out.row (Nat.le_refl _) (Turns.of_below hb (fun _ => False)) (fun _ _ f => f)) rfl (fun s hs => Nat.le_trans (HGS.out s hs) (by omega))
        rw [decide_eq_true rfl] at this
        exact this
      refine wp_region_inv (by kernel_rfl) (fun W => Below w6.heap.size w6 W) (YCl4 q ⟨nm, hs, ml, dis, A, gs, c⟩ ⟨nm', hs', ml', dis', A', gs', c'⟩ ⟨nm, hs, ml, dis, A2, gs, c2'⟩) ?F ?hF (by kernel_rfl) (by kernel_rfl) (below_drew (Below.refl _ _)) ?step ?fin
      case hF =>
        intro x
        simp only [List.map_cons, List.map_nil, putL, Act.put, List.setIfInBounds_toArray, List.set_cons_zero, List.set_cons_succ, Nat.zero_add, Nat.reduceAdd]
        exact rfl
      case step =>
        refine ⟨?_, ?_, ?_, ?_, ?_, ?_, ?_, ?_, ?_, ?_, ?_, ?_, ?_, ?_, ?_, ?_, ?_, ?_, ?_, ?_, ?_, ?_, trivial⟩
        all_goals intro x W hW hdep K hK
        · have hu := HA6.out.below hW
          have c0 : _ = some (.string nm : Value) := hu.c0
          have c1 : _ = some (.string hs : Value) := hu.c1
          have c2 : _ = some (.string ml : Value) := hu.c2
          have c3 : _ = some (.bool dis : Value) := hu.c3
          have c4 : _ = some (.slice A gs.length c : Value) := hu.c4
          clear hu
          clear hdep
          go_simp
          exact hK _ _ rfl hW (fun _ _ h => h)
        · have hu := HC6.out.below hW
          have c0 : _ = some (.string nm : Value) := hu.c0
          have c1 : _ = some (.string hs : Value) := hu.c1
          have c2 : _ = some (.string ml : Value) := hu.c2
          have c3 : _ = some (.bool dis : Value) := hu.c3
          have c4 : _ = some (.slice A2 gs.length c2' : Value) := hu.c4
          clear hu
          clear hdep
          go_simp
          exact hK _ _ rfl hW (fun _ _ h => h)
        · have h0 : x 0 = _ := hdep 0 rfl
          have h1 : x 1 = _ := hdep 1 rfl
          clear hdep
          simp only [h0, h1] at hK
          go_simp
          refine (HSac.out W (below_next HB6.out hW) hW).mono ?_
          rintro e W' ⟨rfl, hb⟩
          exact hK _ _ rfl (below_next hW hb) (fun j z h => YCl4_keep j z h)
        · have h2 : x 2 = _ := hdep 2 rfl
          clear hdep
          simp only [h2] at hK
          go_simp
          exact hK _ _ rfl hW (fun _ _ h => h)
        · have h3 : x 3 = _ := hdep 3 rfl
          clear hdep
          simp only [h3] at hK
          go_simp
          exact hK _ _ rfl hW (fun _ _ h => h)
        · have h4 : x 4 = _ := hdep 4 rfl
          have hu := HA6.out.below hW
          have c0 : _ = some (.string nm : Value) := hu.c0
          have c1 : _ = some (.string hs : Value) := hu.c1
          have c2 : _ = some (.string ml : Value) := hu.c2
          have c3 : _ = some (.bool dis : Value) := hu.c3
          have c4 : _ = some (.slice A gs.length c : Value) := hu.c4
          clear hu
          clear hdep
          simp only [h4] at hK
          go_simp
          exact hK _ _ rfl hW (fun _ _ h => h)
        · have h4 : x 4 = _ := hdep 4 rfl
          have hu := HB6b.out.below hW
          have c0 : _ = some (.string nm' : Value) := hu.c0
          have c1 : _ = some (.string hs' : Value) := hu.c1
          have c2 : _ = some (.string ml' : Value) := hu.c2
          have c3 : _ = some (.bool dis' : Value) := hu.c3
          have c4 : _ = some (.slice A' gs'.length c' : Value) := hu.c4
          clear hu
          clear hdep
          simp only [h4] at hK
          go_simp
          exact hK _ _ rfl hW (fun _ _ h => h)
        · have h4 : x 4 = _ := hdep 4 rfl
          have h5 : x 5 = _ := hdep 5 rfl
          have h6 : x 6 = _ := hdep 6 rfl
          clear hdep
          simp only [h4, h5, h6] at hK
          go_simp
          refine (HSab.out W (below_next HB6.out hW)).mono ?_
          rintro e W' ⟨rfl, hb⟩
          exact hK _ _ rfl (below_next hW hb) (fun j z h => YCl4_keep j z h)
        · have h4 : x 4 = _ := hdep 4 rfl
          have hu := HA6.out.below hW
          have c0 : _ = some (.string nm : Value) := hu.c0
          have c1 : _ = some (.string hs : Value) := hu.c1
          have c2 : _ = some (.string ml : Value) := hu.c2
          have c3 : _ = some (.bool dis : Value) := hu.c3
          have c4 : _ = some (.slice A gs.length c : Value) := hu.c4
          clear hu
          clear hdep
          simp only [h4] at hK
          go_simp
          exact hK _ _ rfl hW (fun _ _ h => h)
        · have h4 : x 4 = _ := hdep 4 rfl
          have hu := HB6b.out.below hW
          have c0 : _ = some (.string nm' : Value) := hu.c0
          have c1 : _ = some (.string hs' : Value) := hu.c1
          have c2 : _ = some (.string ml' : Value) := hu.c2
          have c3 : _ = some (.bool dis' : Value) := hu.c3
          have c4 : _ = some (.slice A' gs'.length c' : Value) := hu.c4
          clear hu
          clear hdep
          simp only [h4] at hK
          go_simp
          exact hK _ _ rfl hW (fun _ _ h => h)
        · have h4 : x 4 = _ := hdep 4 rfl
          have h8 : x 8 = _ := hdep 8 rfl
          have h9 : x 9 = _ := hdep 9 rfl
          clear hdep
          simp only [h4, h8, h9] at hK
          go_simp
          refine (HRab.out W (below_next HB6.out hW)).mono ?_
          rintro e W' ⟨rfl, hb⟩
          exact hK _ _ rfl (below_next hW hb) (fun j z h => YCl4_keep j z h)
        · have h4 : x 4 = _ := hdep 4 rfl
          have h7 : x 7 = _ := hdep 7 rfl
          have h10 : x 10 = _ := hdep 10 rfl
          clear hdep
          simp only [h4, h7, h10] at hK
          go_simp
          exact hK _ _ rfl hW (fun _ _ h => h)
        · have h4 : x 4 = _ := hdep 4 rfl
          have h11 : x 11 = _ := hdep 11 rfl
          clear hdep
          simp only [h4, h11] at hK
          go_simp
          exact hK _ _ rfl hW (fun _ _ h => h)
        · have h12 : x 12 = _ := hdep 12 rfl
          clear hdep
          simp only [h12] at hK
          go_simp
          exact hK _ _ rfl hW (fun _ _ h => h)
        · have h13 : x 13 = _ := hdep 13 rfl
          have hu := HB6b.out.below hW
          have c0 : _ = some (.string nm' : Value) := hu.c0
          have c1 : _ = some (.string hs' : Value) := hu.c1
          have c2 : _ = some (.string ml' : Value) := hu.c2
          have c3 : _ = some (.bool dis' : Value) := hu.c3
          have c4 : _ = some (.slice A' gs'.length c' : Value) := hu.c4
          clear hu
          clear hdep
          simp only [h13] at hK
          go_simp
          exact hK _ _ rfl hW (fun _ _ h => h)
        · have h13 : x 13 = _ := hdep 13 rfl
          have hu := HA6.out.below hW
          have c0 : _ = some (.string nm : Value) := hu.c0
          have c1 : _ = some (.string hs : Value) := hu.c1
          have c2 : _ = some (.string ml : Value) := hu.c2
          have c3 : _ = some (.bool dis : Value) := hu.c3
          have c4 : _ = some (.slice A gs.length c : Value) := hu.c4
          clear hu
          clear hdep
          simp only [h13] at hK
          go_simp
          exact hK _ _ rfl hW (fun _ _ h => h)
        · have h13 : x 13 = _ := hdep 13 rfl
          have h14 : x 14 = _ := hdep 14 rfl
          have h15 : x 15 = _ := hdep 15 rfl
          clear hdep
          simp only [h13, h14, h15] at hK
          go_simp
          refine (HSba.out W (below_next HB6.out hW)).mono ?_
          rintro e W' ⟨rfl, hb⟩
          exact hK _ _ rfl (below_next hW hb) (fun j z h => YCl4_keep j z h)
        · have h13 : x 13 = _ := hdep 13 rfl
          have hu := HA6.out.below hW
          have c0 : _ = some (.string nm : Value) := hu.c0
          have c1 : _ = some (.string hs : Value) := hu.c1
          have c2 : _ = some (.string ml : Value) := hu.c2
          have c3 : _ = some (.bool dis : Value) := hu.c3
          have c4 : _ = some (.slice A gs.length c : Value) := hu.c4
          clear hu
          clear hdep
          simp only [h13] at hK
          go_simp
          exact hK _ _ rfl hW (fun _ _ h => h)
        · have h13 : x 13 = _ := hdep 13 rfl
          have hu := HB6b.out.below hW
          have c0 : _ = some (.string nm' : Value) := hu.c0
          have c1 : _ = some (.string hs' : Value) := hu.c1
          have c2 : _ = some (.string ml' : Value) := hu.c2
          have c3 : _ = some (.bool dis' : Value) := hu.c3
          have c4 : _ = some (.slice A' gs'.length c' : Value) := hu.c4
          clear hu
          clear hdep
          simp only [h13] at hK
          go_simp
          exact hK _ _ rfl hW (fun _ _ h => h)
        · have h13 : x 13 = _ := hdep 13 rfl
          have h17 : x 17 = _ := hdep 17 rfl
          have h18 : x 18 = _ := hdep 18 rfl
          clear hdep
          simp only [h13, h17, h18] at hK
          go_simp
          refine (HSab.out W (below_next HB6.out hW)).mono ?_
          rintro e W' ⟨rfl, hb⟩
          exact hK _ _ rfl (below_next hW hb) (fun j z h => YCl4_keep j z h)
        · have h13 : x 13 = _ := hdep 13 rfl
          have h16 : x 16 = _ := hdep 16 rfl
          have h19 : x 19 = _ := hdep 19 rfl
          clear hdep
          simp only [h13, h16, h19] at hK
          go_simp
          exact hK _ _ rfl hW (fun _ _ h => h)
        · have h13 : x 13 = _ := hdep 13 rfl
          have h20 : x 20 = _ := hdep 20 rfl
          clear hdep
          simp only [h13, h20] at hK
          go_simp
          exact hK _ _ rfl hW (fun _ _ h => h)
      case fin =>
        intro x W hW hY
        have h21 : x 21 = .bool false := hY 21 (by decide)
        clear hY
        rw [h21]
        clear h21
        have HL7 := Lib.hid (HL6.out.below hW)
        clear hW HL6 HB6b HA6 HC6 HB6 HSac HSab HSba HRab
        have c4 : _ = some (.slice A2 gs.length c2' : Value) := HL7.out.uc.at_.c4
        go_wp2
        clear c4
        go_loopg [6, 47] gs.length (fun gg _ s47 wr => ∃ k : Nat, k ≤ gs.length ∧ gs.length - k ≤ gg ∧ s47 = .int .i64 k ∧ Hid (Lp6 w w.heap.size B5 ⟨nm, hs, ml, dis, A, gs, c⟩ ⟨nm, hs, ml, dis, A2, gs, c2'⟩ (mix gs k) wr))
        case atStart => exact ⟨0, Nat.zero_le _, by omega, rfl, by rw [mix_zero]; exact HL7⟩
        case round =>
          obtain ⟨k, hk, hgg, rfl, HL⟩ := hrel
          by_cases hlt : k < gs.length
          · have hltz : (k : Int) < (gs.length : Int) := by omega
            have c4 : _ = some (.slice A2 gs.length c2' : Value) := HL.out.uc.at_.c4
            have hgx := HGS.out _ (List.getElem_mem hlt)
            have hmx := mix_at gs k hlt
            obtain ⟨g, rfl⟩ : ∃ g, A2 = some ⟨g, 0, none⟩ := by
              rcases HL.out.row.2 with ⟨_, h1⟩ | ⟨g', cap', cur, hv, _⟩
              · simp only at h1; omega
              · injection hv with ha
                exact ⟨g', ha⟩
            have hcell : wr.cell? ⟨g, k, none⟩ = some (.string gs[k]) := by
              have := HL.out.row.cells (g := g) rfl k (.string gs[k]) (by rw [List.getElem?_map, hmx]; rfl)
              rw [Addr.add_lit, Nat.zero_add] at this
              exact this
            obtain ⟨hst, hfr⟩ := HL.out.store rfl k (addx gs[k])
            rw [mix_next gs k hlt] at hst
            have HL2 := Lib.hid hst
            have hadd := addx_run gs[k] (by omega)
            clear hst HL hmx hgx
            generalize addx gs[k] = y at *
            generalize gs[k] = x at *
            go_wp2
            go_roundg (gs.length - (k + 1))
            case measure => omega
            case rel => exact ⟨k + 1, by omega, by omega, by go_num, HL2⟩
          · have hltz : ¬ (k : Int) < (gs.length : Int) := by omega
            obtain rfl : k = gs.length := by omega
            have hL := HL.out
            rw [mix_full] at hL
            have HL3 := Lib.hid hL
            have HA6 := Lib.hid hL.ua.at_
            have HC6 := Lib.hid hL.uc.at_
            have HB6 := Lib.hid hL.bel
            clear hL HL
            have HS3 : Hid (∀ W, Below w.heap.size w W → Below wr.heap.size wr W → Calls Tryd.prog 18 #[.agg #[.string nm, .string hs, .string ml, .bool dis, .slice A gs.length c], .agg #[.string nm, .string hs, .string ml, .bool dis, .slice A2 gs.length c2']] W (Tells5 (decide (gs = gs.map addx)) W)) := fun W hW hb => by
              have := HSC.out A2 c2' (gs.map addx) W hW (owns_turns (b1 := w.heap.size) HL3.out.row (Nat.le_refl _) (Turns.of_below hb (fun _ => False)) (fun _ _ f => f)) (by rw [List.length_map]) (fun s hs => by
                obtain ⟨t, ht, rfl⟩ := List.mem_map.1 hs
                have := HGS.out t ht
                show (t.data.toList ++ [120]).toArray.size ≤ _
                rw [List.size_toArray, List.length_append, size_list]
                simp
                omega)
              rw [List.length_map] at this
              exact this
            clear HSC
            by_cases h0 : gs = []
            · subst h0
              have HSx : Hid (∀ W, Below w.heap.size w W → Below wr.heap.size wr W → Calls Tryd.prog 18 #[.agg #[.string nm, .string hs, .string ml, .bool dis, .slice A 0 c], .agg #[.string nm, .string hs, .string ml, .bool dis, .slice A2 0 c2']] W (Tells5 true W)) := HS3
              clear HS3
              simp only [List.length_nil]
              go_wp2_with fail
              refine wp_region_inv (by kernel_rfl) (fun W => Below wr.heap.size wr W) (YCl11 true w.heap.size ⟨nm, hs, ml, dis, A, [], c⟩ ⟨nm, hs, ml, dis, A2, [], c2'⟩) ?F2 ?hF2 (by kernel_rfl) (by kernel_rfl) (below_drew (Below.refl _ _)) ?step2 ?fin2
              case hF2 =>
                intro x
                simp only [List.map_cons, List.map_nil, putL, Act.put, List.setIfInBounds_toArray, List.set_cons_zero, List.set_cons_succ, Nat.zero_add, Nat.reduceAdd]
                exact rfl
              case step2 =>
                refine ⟨?_, ?_, ?_, ?_, ?_, ?_, ?_, ?_, ?_, trivial⟩
                all_goals intro x W hW hdep K hK
                · have hu := HA6.out.below hW
                  have c0 : _ = some (.string nm : Value) := hu.c0
                  have c1 : _ = some (.string hs : Value) := hu.c1
                  have c2 : _ = some (.string ml : Value) := hu.c2
                  have c3 : _ = some (.bool dis : Value) := hu.c3
                  have c4 : _ = some (.slice A 0 c : Value) := hu.c4
                  clear hu
                  clear hdep
                  go_simp
                  exact hK _ _ rfl hW (fun _ _ h => h)
                · have hu := HC6.out.below hW
                  have c0 : _ = some (.string nm : Value) := hu.c0
                  have c1 : _ = some (.string hs : Value) := hu.c1
                  have c2 : _ = some (.string ml : Value) := hu.c2
                  have c3 : _ = some (.bool dis : Value) := hu.c3
                  have c4 : _ = some (.slice A2 0 c2' : Value) := hu.c4
                  clear hu
                  clear hdep
                  go_simp
                  exact hK _ _ rfl hW (fun _ _ h => h)
                · have h0 : x 0 = _ := hdep 0 rfl
                  have h1 : x 1 = _ := hdep 1 rfl
                  clear hdep
                  simp only [h0, h1] at hK
                  go_simp
                  refine (HSx.out W (below_next HB6.out hW) hW).mono ?_
                  rintro e W' ⟨rfl, hb⟩
                  exact hK _ _ rfl (below_next hW hb) (fun j z h => YCl11_keep j z h)
                · clear hdep
                  go_simp
                  exact hK _ _ rfl hW (fun _ _ h => h)
                · have h3 : x 3 = _ := hdep 3 rfl
                  have hu := HA6.out.below hW
                  have c0 : _ = some (.string nm : Value) := hu.c0
                  have c1 : _ = some (.string hs : Value) := hu.c1
                  have c2 : _ = some (.string ml : Value) := hu.c2
                  have c3 : _ = some (.bool dis : Value) := hu.c3
                  have c4 : _ = some (.slice A 0 c : Value) := hu.c4
                  clear hu
                  clear hdep
                  simp only [h3] at hK
                  go_simp
                  exact hK _ _ rfl hW (fun _ _ h => h)
                · have h4 : x 4 = _ := hdep 4 rfl
                  clear hdep
                  simp only [h4] at hK
                  go_simp
                  exact hK _ _ rfl hW (fun _ _ h => h)
                · have h5 : x 5 = _ := hdep 5 rfl
                  clear hdep
                  simp only [h5] at hK
                  go_simp
                  exact hK _ _ rfl hW (fun _ _ h => h)
                · have h2 : x 2 = _ := hdep 2 rfl
                  have h6 : x 6 = _ := hdep 6 rfl
                  clear hdep
                  simp only [h2, h6] at hK
                  go_simp
                  exact hK _ _ rfl hW (fun _ _ h => h)
                · have h7 : x 7 = _ := hdep 7 rfl
                  clear hdep
                  simp only [h7] at hK
                  go_simp
                  exact hK _ _ rfl hW (fun _ _ h => h)
              case fin2 =>
                intro x W hW hY
                have h8 : x 8 = .bool true := hY 8 (by decide)
                clear hY
                have HF := Lib.hid (below_next HB6.out hW)
                clear hW
                rw [h8]
                go_wp2
                go_ret
                exact ⟨rfl, HF.out⟩
            · have hd : decide (gs = gs.map addx) = false := decide_eq_false (fun e => by
                cases gs with
                | nil => exact h0 rfl
                | cons x gs =>
                  injection e with e
                  exact addx_ne x e)
              rw [hd] at HS3
              have HSx := HS3
              clear HS3 hd
              have hz : ((gs.length : Int) == 0) = false := by
                have : gs.length ≠ 0 := fun e => h0 (List.eq_nil_of_length_eq_zero e)
                simp
                omega
              have hz2 : ¬ gs.length = 0 := fun e => h0 (List.eq_nil_of_length_eq_zero e)
              go_wp2_with fail
              refine wp_region_inv (by kernel_rfl) (fun W => Below wr.heap.size wr W) (YCl11 false w.heap.size ⟨nm, hs, ml, dis, A, gs, c⟩ ⟨nm, hs, ml, dis, A2, gs, c2'⟩) ?F3 ?hF3 (by kernel_rfl) (by kernel_rfl) (below_drew (Below.refl _ _)) ?step3 ?fin3
              case hF3 =>
                intro x
                simp only [List.map_cons, List.map_nil, putL, Act.put, List.setIfInBounds_toArray, List.set_cons_zero, List.set_cons_succ, Nat.zero_add, Nat.reduceAdd]
                exact rfl
              case step3 =>
                refine ⟨?_, ?_, ?_, ?_, ?_, ?_, ?_, ?_, ?_, trivial⟩
                all_goals intro x W hW hdep K hK
                · have hu := HA6.out.below hW
                  have c0 : _ = some (.string nm : Value) := hu.c0
                  have c1 : _ = some (.string hs : Value) := hu.c1
                  have c2 : _ = some (.string ml : Value) := hu.c2
                  have c3 : _ = some (.bool dis : Value) := hu.c3
                  have c4 : _ = some (.slice A gs.length c : Value) := hu.c4
                  clear hu
                  clear hdep
                  go_simp
                  exact hK _ _ rfl hW (fun _ _ h => h)
                · have hu := HC6.out.below hW
                  have c0 : _ = some (.string nm : Value) := hu.c0
                  have c1 : _ = some (.string hs : Value) := hu.c1
                  have c2 : _ = some (.string ml : Value) := hu.c2
                  have c3 : _ = some (.bool dis : Value) := hu.c3
                  have c4 : _ = some (.slice A2 gs.length c2' : Value) := hu.c4
                  clear hu
                  clear hdep
                  go_simp
                  exact hK _ _ rfl hW (fun _ _ h => h)
                · have h0 : x 0 = _ := hdep 0 rfl
                  have h1 : x 1 = _ := hdep 1 rfl
                  clear hdep
                  simp only [h0, h1] at hK
                  go_simp
                  refine (HSx.out W (below_next HB6.out hW) hW).mono ?_
                  rintro e W' ⟨rfl, hb⟩
                  exact hK _ _ rfl (below_next hW hb) (fun j z h => YCl11_keep j z h)
                · clear hdep
                  go_simp
                  exact hK _ _ rfl hW (fun _ _ h => h)
                · have h3 : x 3 = _ := hdep 3 rfl
                  have hu := HA6.out.below hW
                  have c0 : _ = some (.string nm : Value) := hu.c0
                  have c1 : _ = some (.string hs : Value) := hu.c1
                  have c2 : _ = some (.string ml : Value) := hu.c2
                  have c3 : _ = some (.bool dis : Value) := hu.c3
                  have c4 : _ = some (.slice A gs.length c : Value) := hu.c4
                  clear hu
                  clear hdep
                  simp only [h3] at hK
                  go_simp
                  exact hK _ _ rfl hW (fun _ _ h => h)
                · have h4 : x 4 = _ := hdep 4 rfl
                  clear hdep
                  simp only [h4] at hK
                  go_simp
                  exact hK _ _ rfl hW (fun _ _ h => h)
                · have h5 : x 5 = _ := hdep 5 rfl
                  clear hdep
                  simp only [h5] at hK
                  go_simp
                  exact hK _ _ rfl hW (fun _ _ h => h)
                · have h2 : x 2 = _ := hdep 2 rfl
                  have h6 : x 6 = _ := hdep 6 rfl
                  clear hdep
                  simp only [h2, h6] at hK
                  go_simp
                  exact hK _ _ rfl hW (fun _ _ h => h)
                · have h7 : x 7 = _ := hdep 7 rfl
                  clear hdep
                  simp only [h7] at hK
                  go_simp
                  exact hK _ _ rfl hW (fun _ _ h => h)
              case fin3 =>
                intro x W hW hY
                have h8 : x 8 = .bool true := hY 8 (by decide)
                clear hY
                have HF := Lib.hid (below_next HB6.out hW)
                clear hW
                rw [h8]
                go_wp2
                go_ret
                exact ⟨rfl, HF.out⟩
end Go.Proofs.YticajcbeamkmbaaDoor
