/-
  What the reading of an argument tells of memory: a user. The wrap of a row that lists variables, what the arguments weigh handed on.
  Conditions: none.
-/
import Derived.Test.YtclnkboejbnfnaaGreatDoorCard5
import Derived.Test.YtclnkboejbnfnaaGreatDoorUserC
import Derived.ChangeOld
import Derived.SliceStrings
import Derived.Deep.Slices
import Derived.SizedLaws
namespace Go.Proofs.YtclnkboejbnfnaaGreatDoor
open Go.ChangeShapes Go.WideShapes Go.ChangeAt Go.RowKit Go.Deep

theorem returns_laid6 {H : Type} {enc : TypeId × Value → H} {a : Assume} {C : Checked} {os : Os} {f : FuncId} {fn : Func} {s : ChangeSpec} {conds : List PathCond} {apart fresh handsOn again : Bool} {X : World → Array Value → Prop}
    (own : ownKnob C.prog.godebug = none) (started : os.Started) (noInit : C.prog.inits.idxOf? f = none) (hfn : C.prog.funcs[f]? = some fn)
    (witness : ∃ (w : World) (tape : Tape) (i : Input), w.os = os ∧ (w.forCall tape i).Shaped C.prog ∧ i.vars = [] ∧ Input.okWide C.prog (w.forCall tape i) .any w.heap.size f i ∧
      ((s.pre enc C.prog fn conds apart (w.forCall tape i).memory i.args ∧ X (w.forCall tape i).memory i.args) ∧ sizedMet enc C.prog fn (OpenSpec.ofChange s) apart (w.forCall tape i).memory i.args) ∧ a.holds C.prog (lone (Frame.enter C.prog f i.args .normal) [] (w.forCall tape i)))
    (contract : ∀ (W : World) (base : Nat) (args : Array Value) (ds gs : List (DataW H)) (before : List MemPlace),
      (∀ (j : Nat) t v, fn.params[j]? = some t → args[j]? = some v → Value.okWide C.prog W .any base t v) →
      DataW.Whole enc C.prog fn.params.toList s.vars apart W args.toList ds gs before →
      (DataW.weightsEach C.prog (fn.params.toList ++ (OpenSpec.ofChange s).bare.plain.varTypes C.prog) (ds ++ gs)).all (· ≤ reachBytes) = true →
      W.ShapedOpen C.prog →
      Calls C.prog f args W fun e W' => ∃ v, e = .returned v ∧ s.post enc C.prog fn apart fresh handsOn again W args v W') :
    ReturnsInHanded a C os f .any (fun w args => (s.pre enc C.prog fn conds apart w args ∧ X w args) ∧ sizedMet enc C.prog fn (OpenSpec.ofChange s) apart w args) (s.post enc C.prog fn apart fresh handsOn again) := by
  refine returnsInHanded_of_calls own started noInit witness ?_
  intro w tape i _ hsh _ hok hpre _
  obtain ⟨_, _, _, fn', hfn', _, _, _, _, hval⟩ := hok
  have e : fn' = fn := Option.some.inj (hfn'.symm.trans hfn)
  subst e
  obtain ⟨⟨⟨ds, gs, before, hw, _⟩, _⟩, hz⟩ := hpre
  have hwt := hz.weights hw
  have hw' := DataW.Whole.of_heap (w' := w.forCall tape i) (by rfl) hw
  refine (contract (w.forCall tape i) w.heap.size i.args ds gs before hval hw' hwt hsh).mono fun e W' ⟨v, he, hp⟩ => ?_
  subst he
  exact ChangeSpec.post_blind hp

theorem cells6String : Tryz.prog.cellsOf 9 = 1 := by kernel_rfl
theorem cells6Bool : Tryz.prog.cellsOf 4 = 1 := by kernel_rfl
theorem cells6Texts : Tryz.prog.cellsOf 24 = 1 := by kernel_rfl
theorem cells6User : Tryz.prog.cellsOf 26 = 5 := by kernel_rfl

section
variable {H : Type} {enc : TypeId × Value → H} {W : World} {base b0 : Nat} {sp : Nat → Bool} {hd : Bool} {fuel : Nat}
theorem texts6_of {cs : List Value} {x : DataW H × List MemPlace} (hf : DataW.trod enc Tryz.prog W base sp hd fuel 24 cs = some x) :
    ∃ a len cap ss, cs = [.slice a len cap] ∧ len = ss.length ∧ ss.length ≤ cap ∧ cap ≤ 9223372036854775807 ∧ (a = none → cap = 0) ∧ RdS W a ss ∧ ∀ s ∈ ss, s.size ≤ 9223372036854775807 := by
  rcases open_strings Tryz.underlying24 Tryz.underlying9 cells6String hf with ⟨hcs, _⟩ | ⟨x, l, c, zs, hcs, _, hl, hm, hz, _, hcell, hwz⟩
  · exact ⟨none, 0, 0, [], hcs, rfl, by simp, by omega, fun _ => rfl, fun h => absurd rfl h, by simp⟩
  · have hlen : l ≤ zs.length := by rw [hz]; split <;> omega
    have hlt : (zs.take l).length = l := by rw [List.length_take]; omega
    have hx : 0 < zs.length → x = ⟨x.block, x.off, none⟩ := by
      intro hi
      have hs : x.spot = none := World.cell?_spot (hcell 0 hi)
      rw [← hs]
    refine ⟨some x, l, c, zs.take l, hcs, by omega, by omega, by simpa [maxLen] using hm, (fun h => nomatch h), fun hne => ?_, fun s hs => hwz s (List.mem_of_mem_take hs)⟩
    have hp : 0 < zs.length := by
      rcases Nat.eq_zero_or_pos zs.length with h | h
      · exact absurd (by rw [List.eq_nil_of_length_eq_zero h]; simp) hne
      · exact h
    refine ⟨x.block, x.off, by rw [← hx hp], ?_, fun j hj => ?_⟩
    · have := World.block_lt_of_cell? W _ (hcell 0 hp)
      rwa [add_block] at this
    · have hj' : j < zs.length := by omega
      have hc := hcell j hj'
      rw [hx hp, Addr.add_lit] at hc
      rw [hc]
      simp [List.getD_eq_getElem?_getD, List.getElem?_eq_getElem hj']

set_option maxRecDepth 100000 in
theorem user_of {cs : List Value} {x : DataW H × List MemPlace} (h : DataW.trod enc Tryz.prog W base sp hd fuel 26 cs = some x) (hw : ∀ n ∈ x.1.weights Tryz.prog 26, n ≤ reachBytes) :
    ∃ u : Us, cs = u.cells.toList ∧ u.Ok W := by
  obtain ⟨ys, n, _, rfl, hlen, hyl, hf⟩ := DataW.trod_struct Tryz.underlying26 h
  rw [cells6User] at hlen
  match cs, hlen, ys, hyl with
  | [c0, c1, c2, c3, c4], _, [y0, y1, y2, y3, y4], _ =>
    have f0 : DataW.trod enc Tryz.prog W base sp hd n 9 (([c0, c1, c2, c3, c4].drop 0).take (Tryz.prog.cellsOf 9)) = some y0 := hf 0 _ rfl
    have f1 : DataW.trod enc Tryz.prog W base sp hd n 9 (([c0, c1, c2, c3, c4].drop 1).take (Tryz.prog.cellsOf 9)) = some y1 := hf 1 _ rfl
    have f2 : DataW.trod enc Tryz.prog W base sp hd n 9 (([c0, c1, c2, c3, c4].drop 2).take (Tryz.prog.cellsOf 9)) = some y2 := hf 2 _ rfl
    have f3 : DataW.trod enc Tryz.prog W base sp hd n 4 (([c0, c1, c2, c3, c4].drop 3).take (Tryz.prog.cellsOf 4)) = some y3 := hf 3 _ rfl
    have f4 : DataW.trod enc Tryz.prog W base sp hd n 24 (([c0, c1, c2, c3, c4].drop 4).take (Tryz.prog.cellsOf 24)) = some y4 := hf 4 _ rfl
    rw [cells6String] at f0 f1 f2
    rw [cells6Bool] at f3
    rw [cells6Texts] at f4
    obtain ⟨nm, e0, g0, _⟩ := DataW.trod_string Tryz.underlying9 f0
    obtain ⟨hs, e1, g1, _⟩ := DataW.trod_string Tryz.underlying9 f1
    obtain ⟨ml, e2, g2, _⟩ := DataW.trod_string Tryz.underlying9 f2
    obtain ⟨dis, e3, _⟩ := DataW.trod_bool Tryz.underlying4 f3
    obtain ⟨a, len, cap, ss, e4, rfl, h1, h2, h3, h4, h5⟩ := texts6_of f4
    simp only [List.drop_zero, List.drop_succ_cons, List.take_succ_cons, List.take_zero, List.cons.injEq, and_true] at e0 e1 e2 e3 e4
    subst e0 e1 e2 e3 e4
    have hwe : ∀ (j : Nat) (t : TypeId) (d : DataW H), [9, 9, 9, 4, 24][j]? = some t → [y0.1, y1.1, y2.1, y3.1, y4.1][j]? = some d → ∀ n ∈ d.weights Tryz.prog t, n ≤ reachBytes := fun j t d ht hd n hn => by
      refine hw n ?_
      show n ∈ DataW.weights Tryz.prog 26 (.agg [y0.1, y1.1, y2.1, y3.1, y4.1])
      unfold DataW.weights
      rw [Tryz.underlying26]
      exact DataW.weights_mem_each (j := j) (t := t) (d := d) ht hd n hn
    have w0 : nm.data.toList.length ≤ reachBytes := hwe 0 _ _ rfl rfl _ (by rw [g0]; simp [DataW.weights])
    have w1 : hs.data.toList.length ≤ reachBytes := hwe 1 _ _ rfl rfl _ (by rw [g1]; simp [DataW.weights])
    have w2 : ml.data.toList.length ≤ reachBytes := hwe 2 _ _ rfl rfl _ (by rw [g2]; simp [DataW.weights])
    rw [size_list] at w0 w1 w2
    have hr : reachBytes ≤ 140737488355328 := by decide
    exact ⟨⟨nm, hs, ml, dis, a, ss, cap⟩, rfl, ⟨h4, by show nm.size ≤ _; omega, by show hs.size ≤ _; omega, by show ml.size ≤ _; omega, h3, h1, h2, h5⟩⟩

set_option maxRecDepth 100000 in
theorem user_arg {v : Value} {d : DataW H} {p : List MemPlace} (hok : Value.okWide Tryz.prog W .any b0 26 v) (h : DataW.Trod enc Tryz.prog W base sp hd 26 v d p) (hw : ∀ n ∈ d.weights Tryz.prog 26, n ≤ reachBytes) :
    ∃ u : Us, v = u.v ∧ u.Ok W := by
  obtain ⟨cs, rfl, _⟩ := okWide_struct Tryz.underlying26 hok
  obtain ⟨fuel, hf⟩ := h
  obtain ⟨u, hu, hk⟩ := user_of hf hw
  exact ⟨u, by have : cs = u.cells := Array.toList_inj.1 hu; rw [this]; rfl, hk⟩
end
end Go.Proofs.YtclnkboejbnfnaaGreatDoor
