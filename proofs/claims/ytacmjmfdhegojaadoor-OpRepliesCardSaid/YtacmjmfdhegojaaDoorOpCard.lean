/-
  What the rows' own reading tells: the table of kinds as it is laid, an operation and rows of texts that came in; and the wrap of a row that lists the table.
  Conditions: none.
-/
import Derived.ProofKit
import Derived.OpenShut
import Derived.Lay
import Derived.LaidLaws
import Derived.Handed
import Derived.FnData
import Derived.SevenTiedAt
import Derived.MakeChecks
import Derived.ChangeOld
import Derived.SliceStrings
import Derived.Deep.Slices
import Derived.Stop.Joined
import Derived.Test.YtacmjmfdhegojaaDoorOpOwn
import Derived.Test.YtacmjmfdhegojaaDoorWriteC
import Derived.Test.YtacmjmfdhegojaaDoorRows
namespace Go.Proofs.YtacmjmfdhegojaaDoor
open Go.ChangeShapes Go.WideShapes Go.ChangeAt Go.RowKit Go.Deep

theorem returns_laid14 {H : Type} {enc : TypeId × Value → H} {a : Assume} {C : Checked} {os : Os} {f : FuncId} {fn : Func} {s : ChangeSpec} {conds : List PathCond} {apart fresh handsOn again : Bool} {X : World → Array Value → Prop}
    (hX : ∀ w w' args, w.heap = w'.heap → X w args → X w' args)
    (own : ownKnob C.prog.godebug = none) (started : os.Started) (noInit : C.prog.inits.idxOf? f = none) (hfn : C.prog.funcs[f]? = some fn)
    (witness : ∃ (w : World) (tape : Tape) (i : Input), w.os = os ∧ (w.forCall tape i).Shaped C.prog ∧ i.vars = [] ∧ Input.okWide C.prog (w.forCall tape i) .any w.heap.size f i ∧
      ((s.pre enc C.prog fn conds apart (w.forCall tape i).memory i.args ∧ X (w.forCall tape i).memory i.args) ∧ sizedMet enc C.prog fn (OpenSpec.ofChange s) apart (w.forCall tape i).memory i.args) ∧ a.holds C.prog (lone (Frame.enter C.prog f i.args .normal) [] (w.forCall tape i)))
    (contract : ∀ (W : World) (base : Nat) (args : Array Value) (ds gs : List (DataW H)) (before : List MemPlace),
      (∀ (j : Nat) t v, fn.params[j]? = some t → args[j]? = some v → Value.okWide C.prog W .any base t v) →
      DataW.Whole enc C.prog fn.params.toList s.vars apart W args.toList ds gs before →
      X W args →
      Calls C.prog f args W fun e W' => ∃ v, e = .returned v ∧ s.post enc C.prog fn apart fresh handsOn again W args v W') :
    ReturnsInHanded a C os f .any (fun w args => (s.pre enc C.prog fn conds apart w args ∧ X w args) ∧ sizedMet enc C.prog fn (OpenSpec.ofChange s) apart w args) (s.post enc C.prog fn apart fresh handsOn again) := by
  refine returnsInHanded_of_calls own started noInit witness ?_
  intro w tape i _ hsh _ hok hpre _
  obtain ⟨_, _, _, fn', hfn', _, _, _, _, hval⟩ := hok
  have e : fn' = fn := Option.some.inj (hfn'.symm.trans hfn)
  subst e
  obtain ⟨⟨⟨ds, gs, before, hw, _⟩, hx⟩, _⟩ := hpre
  have hw' := DataW.Whole.of_heap (w' := w.forCall tape i) (by rfl) hw
  refine (contract (w.forCall tape i) w.heap.size i.args ds gs before hval hw' (hX (w.forCall tape i).memory (w.forCall tape i) _ rfl hx)).mono fun e W' ⟨v, he, hp⟩ => ?_
  subst he
  exact ChangeSpec.post_blind hp

/-! ### The table -/
theorem pick14 {l : List Value} {a n j : Nat} {v : Value} (h : (((l.drop a).take n).drop j).take 1 = [v]) : l[a + j]? = some v := by
  have h1 := congrArg (fun x : List Value => x[0]?) h
  simp only [List.getElem?_cons_zero, List.getElem?_take, List.getElem?_drop, Nat.add_zero] at h1
  split at h1
  · split at h1
    · exact h1
    · cases h1
  · cases h1
theorem cells14Table : Tryd.prog.cellsOf 99 = 51 := by kernel_rfl
theorem cells14Trait : Tryd.prog.cellsOf 66 = 3 := by kernel_rfl
theorem cells14String : Tryd.prog.cellsOf 9 = 1 := by kernel_rfl
theorem cells14Int : Tryd.prog.cellsOf 3 = 1 := by kernel_rfl
theorem cells14Byte : Tryd.prog.cellsOf 5 = 1 := by kernel_rfl
theorem cells14Release : Tryd.prog.cellsOf 22 = 1 := by kernel_rfl
theorem cells14Op : Tryd.prog.cellsOf 24 = 5 := by kernel_rfl
/-- A row of the table, as data. -/
def row14 (k : Nat) : DataW Unit := .agg [.lit (.string (nam14 k)), .lit (.string (sig14 k)), .lit (.int .i64 (frm14 k))]
theorem laid_rows14 : (Rows.laid_interrex_op_traits : DataW Unit) = .agg ((List.range 17).map row14) := by kernel_rfl
set_option maxRecDepth 100000 in
theorem laid14_of {W : World} (h : laidMetH Tryd.prog [("interrex/op.traits", Rows.laid_interrex_op_traits)] W) : Laid14 W := by
  rw [MakeChecks.laidMetH_plain _ _ _ (by kernel_rfl)] at h
  obtain ⟨ps, ⟨g, t, cs, fuel, p, q, hg, ht, hvar, hd, _, _⟩, _⟩ := h
  have hgn : Tryd.prog.globalNamed "interrex/op.traits" = some 0 := by kernel_rfl
  have hgt : (Tryd.prog.globals[0]?).map (·.type) = some 99 := by kernel_rfl
  obtain rfl := Option.some.inj (hgn.symm.trans hg)
  obtain rfl := Option.some.inj (hgt.symm.trans ht)
  obtain ⟨xs, m, rfl, hx, hlen, hxl, hel⟩ := DataW.trod_array Tryd.underlying99 hd
  rw [laid_rows14] at hx
  have hmap : (List.range 17).map row14 = xs.map (·.1) := by
    have := (Prod.mk.inj hx).1
    injection this
  rw [cells14Trait] at hel
  have hrow : ∀ k, k < 17 → cs[k * 3]? = some (.string (tx14 (nam14 k))) ∧ cs[k * 3 + 1]? = some (.string (tx14 (sig14 k))) ∧ cs[k * 3 + 2]? = some (.int .i64 (frm14 k)) := by
    intro k hk
    have hel := hel k hk
    have hk2 : k < xs.length := by omega
    rw [List.getElem?_eq_getElem hk2] at hel
    have hy : row14 k = (xs[k]).1 := by
      have := congrArg (fun l : List (DataW Unit) => l[k]?) hmap
      simp only [List.getElem?_map, List.getElem?_range hk, List.getElem?_eq_getElem hk2, Option.map_some, Option.some.injEq] at this
      exact this
    obtain ⟨ys, n, _, hys, hl3, hyl, hf⟩ := DataW.trod_struct Tryd.underlying66 hel
    rw [hys] at hy
    match ys, hyl with
    | [y0, y1, y2], _ =>
      have f0 : DataW.trod (fun _ => ()) Tryd.prog W 0 (fun _ => true) false n 9 ((((cs.toList.drop (k * 3)).take 3).drop 0).take (Tryd.prog.cellsOf 9)) = some y0 := hf 0 _ rfl
      have f1 : DataW.trod (fun _ => ()) Tryd.prog W 0 (fun _ => true) false n 9 ((((cs.toList.drop (k * 3)).take 3).drop 1).take (Tryd.prog.cellsOf 9)) = some y1 := hf 1 _ rfl
      have f2 : DataW.trod (fun _ => ()) Tryd.prog W 0 (fun _ => true) false n 3 ((((cs.toList.drop (k * 3)).take 3).drop 2).take (Tryd.prog.cellsOf 3)) = some y2 := hf 2 _ rfl
      rw [cells14String] at f0 f1
      rw [cells14Int] at f2
      obtain ⟨s0, e0, g0, _⟩ := DataW.trod_string Tryd.underlying9 f0
      obtain ⟨s1, e1, g1, _⟩ := DataW.trod_string Tryd.underlying9 f1
      obtain ⟨n2, e2, g2, _⟩ := DataW.trod_int Tryd.underlying3 f2
      rw [g0, g1, g2] at hy
      unfold row14 at hy
      simp only [List.map_cons, List.map_nil, DataW.agg.injEq, List.cons.injEq, DataW.lit.injEq, Lit.string.injEq, Lit.int.injEq, and_true, true_and] at hy
      obtain ⟨q0, q1, q2⟩ := hy
      have h0 := pick14 e0
      have h1 := pick14 e1
      have h2 := pick14 e2
      rw [q0, q1, q2, tx14_back, tx14_back]
      simp only [Array.getElem?_toList, Nat.add_zero] at h0 h1 h2
      exact ⟨h0, h1, h2⟩
  have hc := fun i => World.var?_cell hgn hvar i
  have c0 : W.cell? ⟨0, 0 * 3, none⟩ = some (.string (tx14 (nam14 0))) := (hc _).trans (hrow 0 (by decide)).1
  exact ⟨World.block_lt_of_cell? W _ c0, fun k hk => (hc _).trans (hrow k hk).1, fun k hk => (hc _).trans (hrow k hk).2.1, fun k hk => (hc _).trans (hrow k hk).2.2⟩

/-! ### Arguments -/
section
variable {H : Type} {enc : TypeId × Value → H} {W : World} {base b0 : Nat} {sp : Nat → Bool} {hd : Bool} {fuel : Nat}
/-- What is known of a slice of texts that came in. -/
def IsTexts14 (w : World) (A : Option Addr) (len cap : Nat) (ss : List ByteArray) : Prop := len = ss.length ∧ ss.length ≤ 9223372036854775807 ∧ RdS w A ss ∧ len ≤ cap ∧ cap ≤ 9223372036854775807
theorem texts14_of {a : Option Addr} {len cap : Nat} {d : DataW H} {p : List MemPlace} (h : DataW.Trod enc Tryd.prog W base sp hd 40 (.slice a len cap) d p) : ∃ ss, IsTexts14 W a len cap ss := by
  obtain ⟨fuel, hf⟩ := h
  rcases open_strings Tryd.underlying40 Tryd.underlying9 cells14String hf with ⟨hcs, _⟩ | ⟨x, l, c, zs, hcs, _, hl, hm, hz, _, hcell, hwz⟩
  · simp [Value.cells] at hcs
    obtain ⟨rfl, rfl, rfl⟩ := hcs
    exact ⟨[], rfl, by simp, fun h => absurd rfl h, by omega, by omega⟩
  · simp [Value.cells] at hcs
    obtain ⟨rfl, rfl, rfl⟩ := hcs
    have hlen : len ≤ zs.length := by rw [hz]; split <;> omega
    have hlt : (zs.take len).length = len := by rw [List.length_take]; omega
    have hx : 0 < zs.length → x = ⟨x.block, x.off, none⟩ := by
      intro hi
      have hs : x.spot = none := World.cell?_spot (hcell 0 hi)
      rw [← hs]
    have hm' : cap ≤ 9223372036854775807 := by simpa [maxLen] using hm
    refine ⟨zs.take len, by omega, by omega, fun hne => ?_, hl, hm'⟩
    have hp : 0 < zs.length := by
      rcases Nat.eq_zero_or_pos zs.length with h | h
      · exact absurd (by rw [List.eq_nil_of_length_eq_zero h]; simp) hne
      · exact h
    refine ⟨x.block, x.off, by rw [← hx hp], ?_, fun j hj => ?_⟩
    · have := World.block_lt_of_cell? W _ (hcell 0 hp)
      rwa [add_block] at this
    · have hj' : j < zs.length := by omega
      have hc := hcell j hj'
      rw [hx hp, Addr.add_lit] at hc
      rw [hc]
      simp [List.getD_eq_getElem?_getD, List.getElem?_eq_getElem hj']

set_option maxRecDepth 100000 in
theorem op14_of {cs : List Value} {x : DataW H × List MemPlace} (h : DataW.trod enc Tryd.prog W base sp hd fuel 24 cs = some x) : ∃ o : O14, cs = o.cells.toList := by
  obtain ⟨ys, n, _, rfl, hlen, hyl, hf⟩ := DataW.trod_struct Tryd.underlying24 h
  rw [cells14Op] at hlen
  match cs, hlen, ys, hyl with
  | [c0, c1, c2, c3, c4], _, [y0, y1, y2, y3, y4], _ =>
    have f0 : DataW.trod enc Tryd.prog W base sp hd n 5 (([c0, c1, c2, c3, c4].drop 0).take (Tryd.prog.cellsOf 5)) = some y0 := hf 0 _ rfl
    have f1 : DataW.trod enc Tryd.prog W base sp hd n 9 (([c0, c1, c2, c3, c4].drop 1).take (Tryd.prog.cellsOf 9)) = some y1 := hf 1 _ rfl
    have f2 : DataW.trod enc Tryd.prog W base sp hd n 9 (([c0, c1, c2, c3, c4].drop 2).take (Tryd.prog.cellsOf 9)) = some y2 := hf 2 _ rfl
    have f3 : DataW.trod enc Tryd.prog W base sp hd n 5 (([c0, c1, c2, c3, c4].drop 3).take (Tryd.prog.cellsOf 5)) = some y3 := hf 3 _ rfl
    have f4 : DataW.trod enc Tryd.prog W base sp hd n 22 (([c0, c1, c2, c3, c4].drop 4).take (Tryd.prog.cellsOf 22)) = some y4 := hf 4 _ rfl
    rw [cells14Byte] at f0 f3
    rw [cells14String] at f1 f2
    rw [cells14Release] at f4
    obtain ⟨k, e0, _, w0⟩ := DataW.trod_int Tryd.underlying5 f0
    obtain ⟨a, e1, _⟩ := DataW.trod_string Tryd.underlying9 f1
    obtain ⟨b, e2, _⟩ := DataW.trod_string Tryd.underlying9 f2
    obtain ⟨nd, e3, _, w3⟩ := DataW.trod_int Tryd.underlying5 f3
    obtain ⟨rl, e4, _, w4⟩ := DataW.trod_int Tryd.underlying22 f4
    simp only [List.drop_zero, List.drop_succ_cons, List.take_succ_cons, List.take_zero, List.cons.injEq, and_true] at e0 e1 e2 e3 e4
    subst e0 e1 e2 e3 e4
    have bd : ∀ x : Int, (Lit.int .u8 x).wf = true → ∃ y : UInt8, x = y.toNat := fun x hx => by
      have hb : 0 ≤ x ∧ x ≤ 255 := by
        simp [Lit.wf, IntKind.min, IntKind.max, IntKind.signed, IntKind.bits] at hx
        omega
      refine ⟨UInt8.ofNat x.toNat, ?_⟩
      simp only [UInt8.toNat_ofNat']
      omega
    obtain ⟨k, rfl⟩ := bd k w0
    obtain ⟨nd, rfl⟩ := bd nd w3
    obtain ⟨rl, rfl⟩ := bd rl w4
    exact ⟨⟨k, a, b, nd, rl⟩, rfl⟩
set_option maxRecDepth 100000 in
theorem op14_arg {v : Value} {d : DataW H} {p : List MemPlace} (hok : Value.okWide Tryd.prog W .any b0 24 v) (h : DataW.Trod enc Tryd.prog W base sp hd 24 v d p) : ∃ o : O14, v = o.v := by
  obtain ⟨cs, rfl, _⟩ := okWide_struct Tryd.underlying24 hok
  obtain ⟨fuel, hf⟩ := h
  obtain ⟨o, ho⟩ := op14_of hf
  exact ⟨o, by have : cs = o.cells := Array.toList_inj.1 ho; rw [this]; rfl⟩
end
end Go.Proofs.YtacmjmfdhegojaaDoor
