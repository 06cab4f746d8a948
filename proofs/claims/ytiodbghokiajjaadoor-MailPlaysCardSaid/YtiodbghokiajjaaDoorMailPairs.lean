/-
  What an index tells, at most so many: the law's own collecting.
  Conditions: none.
-/
import Derived.Test.YtiodbghokiajjaaDoorMailNames
namespace Go.Proofs.YtiodbghokiajjaaDoor
open Go.RowKit Go.Maps Go.Sort Go.Shelf

attribute [local go_sem] Oper.semAt_some

/-- A pair, as cells. -/
def pr9 (x : List UInt8 × List UInt8) : List Value := [.string (tx7 x.1), .string (tx7 x.2)]
theorem pr9_length (L : Row7) : (L.flatMap pr9).length = L.length * 2 := by
  induction L with
  | nil => rfl
  | cons x L ih => rw [List.flatMap_cons, List.length_append, ih]; simp [pr9]; omega
theorem pr9_at (L : Row7) (j i : Nat) (hj : j < L.length) (hi : i < 2) : (L.flatMap pr9)[j * 2 + i]? = (pr9 L[j])[i]? := by
  induction L generalizing j with
  | nil => exact absurd hj (Nat.not_lt_zero _)
  | cons q L ih =>
    rw [List.flatMap_cons]
    cases j with
    | zero =>
      rw [List.getElem?_append_left (by simp [pr9]; omega)]
      simp
    | succ j =>
      rw [List.getElem?_append_right (by simp [pr9]; omega)]
      have := ih j (by simpa using hj)
      rw [show (j + 1) * 2 + i - (pr9 q).length = j * 2 + i by simp [pr9]; omega, this]
      simp
/-- A row of pairs, new from base on. -/
def Prs9 (base : Nat) (w : World) (v : Value) (L : Row7) : Prop := w.ownsRow base 49 2 v L.length (L.flatMap pr9)

theorem infoPair9 : (Tryd.prog.info? 49).map (fun i => (i.zero, i.size, i.bytes)) = some (some (.agg #[.string ⟨#[]⟩, .string ⟨#[]⟩]), 2, 32) := by kernel_rfl

/-- 'out = append(out, ..)' of a boxed row that is newer than the box: what the walk owes. -/
theorem appended9 {W w1 : World} {R B : Nat} {t e : TypeId} {size : Nat} {v v' : Value} {k m : Nat} {xs ys : List Value} {tmp : Obj}
    (hv : Boxed W B t v) (hte : t ≠ e) (hrow : W.ownsRow R e size v k xs) 
    (hown' : w1.ownsRow R e size v' m ys) (hgrow : (W.alloc tmp).grownBy w1 v.ownBlock) :
    Boxed w1 B t v ∧ Boxed (w1.setCell ⟨B, 0, none⟩ v') B t v' ∧ (w1.setCell ⟨B, 0, none⟩ v').ownsRow R e size v' m ys ∧ KeepsOthers W (w1.setCell ⟨B, 0, none⟩ v') ∧
      Turns (fun i => i = B ∨ R ≤ i) W (w1.setCell ⟨B, 0, none⟩ v') := by
  have h1 : Boxed w1 B t v := (hv.alloc tmp).kept hgrow (hv.not_row hte hrow)
  obtain ⟨_, a2, _, a4, _⟩ := hv.appended (n₀ := 0) hte (ownsRow_base_a hrow (Nat.zero_le _)) (Nat.zero_le _) (Nat.zero_le _) (ownsRow_base_a hown' (Nat.zero_le _)) hgrow
  refine ⟨h1, a2, hown'.kept (grownBy_setCell' w1 B v') (.inr (h1.not_row hte hown').symm), a4, ?_⟩
  refine (((Turns.refl (fun i => i = B ∨ R ≤ i) W).alloc tmp).grown hgrow (fun j e _ => .inr ?_)).setCell (p := ⟨B, 0, none⟩) (fun _ => .inl rfl) v'
  rcases hrow.2 with ⟨rfl, _⟩ | ⟨g, cap, cur, rfl, hb, _⟩
  · simp [Value.ownBlock] at e
  · have : g = j := by simpa [Value.ownBlock] using e
    rw [← this]; exact hb

theorem take_snoc9 {L pre : Row7} (h : pre <+: L) : pre = L.take pre.length := (List.prefix_iff_eq_take.1 h)

theorem run_equalIn_func_nil9 {P : Program} (w : World) (d : Nat) (t : TypeId) {a b : Array TypeId} {v : Bool} (f : Fn) (c l : Array Value) (h : P.underlying t = some (.func a b v)) :
    (Op.equalIn (d + 1) t (.func f c l) .nilFunc).run P w = .ok false w := by
  simp [Op.equalIn, run_underlying h]
theorem run_eql_func_nil9 {P : Program} (w : World) (t : TypeId) {a b : Array TypeId} {v : Bool} (f : Fn) (c l : Array Value) (h : P.underlying t = some (.func a b v)) :
    (binOp .eql t (.func f c l) .nilFunc).run P w = .ok (.bool false) w := by
  simp only [binOp]
  simp [show Op.equal t (.func f c l) .nilFunc = Op.equalIn (9999 + 1) t (.func f c l) .nilFunc from rfl, run_equalIn_func_nil9 w 9999 t f c l h]
theorem nilfunc9 (f : Fn) (c l : Array Value) (w : World) : (binOp .eql 59 (.func f c l) .nilFunc).run Tryd.prog w = .ok (.bool false) w :=
  run_eql_func_nil9 w _ f c l Tryd.underlying59

set_option maxRecDepth 100000 in
set_option maxHeartbeats 4000000 in
theorem pairs9_calls (B : Nat) (p q : Option Nat) (L M : Row7) (most : Int) (w : World) (h : Idx9 w B p q L M) :
    Calls Tryd.prog 22 #[.pointer (some ⟨B, 0, none⟩), .int .i64 most] w fun e W => ∃ v, e = .returned v ∧ Prs9 w.heap.size W v (L.take most.toNat) ∧ Below w.heap.size w W := by
  have hbx : Below w.heap.size w ((w.alloc (.cells #[.int .i64 most] 3)).alloc (.cells #[.slice none 0 0] 27)) := below_alloc (below_alloc (Below.refl _ _) _) _
  have HNM := names9_calls B p q L M _ (h.later hbx)
  have hnf := nilfunc9
  have hfew := h.few
  have hrise := h.rise
  have hsz : ∀ x ∈ L, x.1.length ≤ 1000 := fun x hx => Nat.le_trans (name5_len (h.all x hx).1) (by decide)
  have b0 : Boxed ((w.alloc (.cells #[.int .i64 most] 3)).alloc (.cells #[.slice none 0 0] 27)) w.heap.size 3 (.int .i64 most) := (Boxed.new w _ _).alloc _
  have b1 : Boxed ((w.alloc (.cells #[.int .i64 most] 3)).alloc (.cells #[.slice none 0 0] 27)) (w.heap.size + 1) 27 (.slice none 0 0) := by
    have := Boxed.new (w.alloc (.cells #[.int .i64 most] 3)) 27 (.slice none 0 0)
    rwa [World.size_alloc] at this
  have hz2 : ((w.alloc (.cells #[.int .i64 most] 3)).alloc (.cells #[.slice none 0 0] 27)).heap.size = w.heap.size + 2 := by simp
  by_cases hm0 : most ≤ 0
  · have htk : L.take most.toNat = [] := by rw [show most.toNat = 0 by omega]; rfl
    rw [htk]
    have HN := Lib.hid HNM
    clear h HNM hfew hrise hsz htk
    go_enter Tryd.func22, Tryd.ntmps22
    go_wp2_with fail
    with_reducible refine HN.out.mono ?_
    rintro e W ⟨G, H, rfl, hI, hb⟩
    have c0 := (hb.cell (p := ⟨w.heap.size, 0, none⟩) (by rw [hz2]; show w.heap.size < _; omega)).trans b0.cell
    have c1 := (hb.cell (p := ⟨w.heap.size + 1, 0, none⟩) (by rw [hz2]; show w.heap.size + 1 < _; omega)).trans b1.cell
    have HF := Lib.hid (below_next hbx hb)
    clear hI hb hbx HN b0 b1
    go_wp2
    go_ret
    exact ⟨_, rfl, World.ownsRow_nil _ _ _ _, HF.out⟩
  · obtain ⟨i0, hi, hz0, hz1, hzb⟩ := info_parts infoPair9
    clear h
    refine (callsIn_wide (n := 5)).1 ?_
    refine callsIn_of_wp_marks Tryd.func22 rfl trivial ?_ rfl
    simp only [Tryd.ntmps22, List.size_toArray, List.length_cons, List.length_nil, Nat.reduceAdd, Nat.reduceSub, Array.replicate_succ, Array.replicate_zero, List.push_toArray, List.append_toArray, List.nil_append, List.cons_append]
    gi_wp2_with (refine ⟨trivial, ?_⟩; gi_at_call 30; refine (callsIn_wide.2 HNM).mono ?_; clear HNM; rintro e W ⟨G, H, rfl, hI, hb⟩; have c0 := (hb.cell (p := ⟨w.heap.size, 0, none⟩) (by rw [hz2]; show w.heap.size < _; omega)).trans b0.cell; have c1 := (hb.cell (p := ⟨w.heap.size + 1, 0, none⟩) (by rw [hz2]; show w.heap.size + 1 < _; omega)).trans b1.cell)
    obtain ⟨m, hmz⟩ : ∃ m, m = W.heap.size := ⟨_, rfl⟩
    obtain ⟨n0, hn0⟩ : ∃ n0, n0 = ((w.alloc (.cells #[.int .i64 most] 3)).alloc (.cells #[.slice none 0 0] 27)).heap.size := ⟨_, rfl⟩
    have b0' : Boxed W w.heap.size 3 (.int .i64 most) := (hb.block w.heap.size (by rw [hz2]; omega)).trans b0
    have b1' : Boxed W (w.heap.size + 1) 27 (.slice none 0 0) := (hb.block (w.heap.size + 1) (by rw [hz2]; omega)).trans b1
    have hbw := below_next hbx hb
    have hle : n0 ≤ m := by rw [hn0, hmz]; exact hb.size
    have hn2 : n0 = w.heap.size + 2 := by rw [hn0, hz2]
    rw [← hn0, ← hmz] at hI
    clear hb hbx b0 b1 hz2 hn0 c0 c1
    refine wpIn_rangeFunc_ownF rfl (by decide) (gf := 42) (lb := #[.pointer (some ⟨G, 0, none⟩), .pointer (some ⟨H, 0, none⟩)]) rfl trivial (enters_of Tryd.func42 (by kernel_rfl) rfl)
      (encs := enc9) (Kp := Lies9 n0 m) (S := fun ys => ys = L) (Sp := fun pre => pre <+: L) (N := L.length) (w0 := W)
      (fun l J Jx V hV _ _ hY h0 => names91_in 4 (by decide) n0 m L hrise hsz (by omega) G H l J Jx V (hI.lies (Lies9.of_below hV (by omega))) hY h0)
      Lies9.trans (fun V l o o' hl h1 h2 h3 => Lies9.put (w := W) (by omega) V l o o' hl h1 h2 h3) (Below.refl _ _) (fun _ => rfl)
      (fun pre V => (∃ v, Boxed V (w.heap.size + 1) 27 v ∧ V.ownsRow m 49 2 v pre.length (pre.flatMap pr9) ∧ True) ∧ Boxed V w.heap.size 3 (.int .i64 most) ∧ Below w.heap.size w V ∧ ((pre.length : Int) < most ∧ m ≤ V.heap.size))
      (fun c pre V => (∃ v, Boxed V (w.heap.size + 1) 27 v ∧ V.ownsRow m 49 2 v pre.length (pre.flatMap pr9) ∧ True) ∧ Below w.heap.size w V ∧ (c = .exit 0 ∧ (pre.length : Int) = most))
      ?hI ?hIx ?h0
      (fun x => { tmps := #[.pointer (some ⟨B, 0, none⟩), .int .i64 most, undef, .pointer (some ⟨w.heap.size, 0, none⟩), .slice none 0 0, .pointer (some ⟨w.heap.size + 1, 0, none⟩), .func (.func 42) #[] #[.pointer (some ⟨G, 0, none⟩), .pointer (some ⟨H, 0, none⟩)], .string (tx7 x.1), .string (tx7 x.2), .pointer (some ⟨B, 0, none⟩), .func (.func 42) #[] #[.pointer (some ⟨G, 0, none⟩), .pointer (some ⟨H, 0, none⟩)], .func (.func 42) #[] #[.pointer (some ⟨G, 0, none⟩), .pointer (some ⟨H, 0, none⟩)], .bool false, .bool false, .int .i64 most, .bool (decide (most ≤ 0)), .bool (decide (most ≤ 0)), undef, .func (.func 42) #[] #[.pointer (some ⟨G, 0, none⟩), .pointer (some ⟨H, 0, none⟩)], .string (tx7 x.1), .string (tx7 x.2), undef, undef, undef, undef, undef, undef, undef, undef, undef, undef, undef], defers := [] }) ?assign ?body ?done ?stop
    case hI =>
      refine OwnFrom.and (Go.Own.from (holdsRow_own m (w.heap.size + 1) 27 49 2 (fun pre : Row7 => pre.length) (fun pre => pre.flatMap pr9) (fun _ _ => True)) _) (OwnFrom.and (Go.Own.from (boxed_own w.heap.size 3 (fun _ => .int .i64 most)) _) (OwnFrom.and (ownFrom_below (Nat.le_refl _) (by omega)) (OwnFrom.and (ownFrom_pure _ _) ?_)))
      exact fun _ X Y row hs hg _ => Nat.le_trans hs hg.size
    case hIx =>
      intro c
      exact OwnFrom.and (Go.Own.from (holdsRow_own m (w.heap.size + 1) 27 49 2 (fun pre : Row7 => pre.length) (fun pre => pre.flatMap pr9) (fun _ _ => True)) _) (OwnFrom.and (ownFrom_below (Nat.le_refl _) (by omega)) (OwnFrom.and (ownFrom_pure _ _) (ownFrom_pure _ _)))
    case h0 => exact ⟨⟨_, b1', World.ownsRow_nil _ _ _ _, trivial⟩, b0', hbw, by simp; omega, by omega⟩
    case assign =>
      intro l x V K hK
      unfold enc9
      gi_wp2
      exact hK
    case body =>
      rintro l pre x V ⟨⟨v, hv, hrow, _⟩, hb0, hB, hlt, hmV⟩ hpl
      have hc := hv.cell
      have hc0 := hb0.cell
      have hfl : (pre ++ [x]).flatMap pr9 = pre.flatMap pr9 ++ [.string (tx7 x.1), .string (tx7 x.2)] := by simp [pr9]
      generalize tx7 x.1 = sn at *
      generalize tx7 x.2 = sm at *
      obtain ⟨k, hk⟩ : ∃ k, k = pre.length := ⟨_, rfl⟩
      rw [← hk] at hrow hlt hpl
      have HK := Lib.hid hk
      clear hk
      gi_wp2_with (gi_at_builtin; refine wpListIn_append_own _ rfl _ _ 27 rfl m 49 i0 (.agg #[.string ⟨#[]⟩, .string ⟨#[]⟩]) 2 32 Tryd.underlying27 hi hz0 hz1 hzb rfl (by decide) _ _ _ rfl (hrow.alloc _) ⟨V.heap.size, 0, none⟩ 1 1 [.string sn, .string sm] rfl rfl (fun j u hu => by rw [Addr.add_lit, Nat.zero_add, World.cell?_alloc_at _ _ _ _ rfl]; simpa using hu) (by simp [Value.oneCell']) (by unfold maxLen; omega) (by omega) (by simp; omega) ?_; intro v' w1 hown' hgrow _; obtain ⟨g', cap', rfl⟩ := ownsRow_succ hown'; obtain ⟨hv1, hv2, hr2, hk2, ht2⟩ := appended9 hv (by decide) hrow hown' hgrow; have hc1 := hv1.cell; have hf1 := hv1.frozen; have hc2 := hv2.cell; have hbm := (hb0.alloc (.cells #[.string sn, .string sm] 49)).kept hgrow (hb0.not_row (by decide) hrow); have hm1 := hbm.cell)
      · have hge : most ≤ (k : Int) + 1 := by assumption
        refine ⟨hk2, ⟨_, hv2, ?_, trivial⟩, hB.trans (ht2.below_at hB.size (fun i hi => by omega)), rfl, by rw [List.length_append, ← HK.out]; simp; omega⟩
        rw [hfl, List.length_append, ← HK.out]
        exact hr2
      · have hge : ¬ most ≤ (k : Int) + 1 := by first | assumption | omega
        refine ⟨hk2, ⟨ht2.size, fun i h1 h2 => ht2.block i (by omega) (by omega)⟩, ⟨_, hv2, ?_, trivial⟩, hbm.other (by omega) _, hB.trans (ht2.below_at hB.size (fun i hi => by omega)), by rw [List.length_append, ← HK.out]; simp; omega, Nat.le_trans hmV ht2.size⟩
        rw [hfl, List.length_append, ← HK.out]
        exact hr2
    case done =>
      rintro D ys V hD rfl ⟨⟨v, hv, hrow, _⟩, _, hB, hlt, hmV⟩ hK
      have hc := hv.cell
      gi_wp2
      refine ⟨by simp, .inl ⟨_, _, rfl, run_takeDeferred hK, ?_⟩⟩
      refine ⟨_, results_tmp rfl _ _ _, v, rfl, ?_, ?_⟩
      · rw [List.take_of_length_le (by omega)]
        exact ownsRow_putObj (ownsRow_base_a hrow (by omega)) _ hK rfl
      · exact hB.trans (belowK_b (w := W) (by omega) V D _ _ hD hK rfl rfl)
    case stop =>
      rintro D c pre V hD hpre ⟨⟨v, hv, hrow, _⟩, hB, rfl, hlt⟩ hK
      have hc := hv.cell
      gi_wp2
      refine ⟨by simp, .inl ⟨_, _, rfl, run_takeDeferred hK, ?_⟩⟩
      refine ⟨_, results_tmp rfl _ _ _, v, rfl, ?_, ?_⟩
      · rw [show most.toNat = pre.length by omega, ← take_snoc9 hpre]
        exact ownsRow_putObj (ownsRow_base_a hrow (by omega)) _ hK rfl
      · exact hB.trans (belowK_b (w := W) (by omega) V D _ _ hD hK rfl rfl)
end Go.Proofs.YtiodbghokiajjaaDoor
