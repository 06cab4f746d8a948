/-
  The document's own row of sixteen numbers: what Get and Set tell; nothing that was there turns.
  Conditions: none.
-/
import Derived.Test.YtbpccjofopenoaaTallyC
import Derived.Deep.DeepCutAuto
namespace Go.Proofs.Ytbpccjofopenoaa
open Go.RowKit

theorem infoRow : (Try.prog.info? 33).map (fun i => (i.zero, i.size, i.bytes)) = some (some (.agg (numA fun _ => 0)), 16, 128) := by kernel_rfl
theorem sizeRow : (Try.prog.info? 33).map (·.size) = some 16 := by
  obtain ⟨i0, hi, hz0, hz1, hz2⟩ := info_parts infoRow
  rw [hi]
  simp [hz1]
theorem zeroRow_run (w : World) : (zeroValue 33).run Try.prog w = .ok (.agg (numA fun _ => 0)) w := by
  obtain ⟨i0, hi, hz0, hz1, hz2⟩ := info_parts infoRow
  simp [zeroValue, typeInfo, hi, hz0]
/-- Sixteen numbers and something else are told. -/
theorem results_num {fn : Func} {p u : Tmp} {ty e : TypeId} (h : fn.results = #[.cell p ty, .tmp u]) (tmps : Array Value) (P : Program) (w : World) (B : Nat) (f : Nat → Int) (v : Value)
    (hp : tmps.getD p undef = .pointer (some ⟨B, 0, none⟩)) (hv : tmps.getD u undef = v) (hn : Num16 w B f) (hu : P.underlying ty = some (.array 16 e)) (hi : (P.info? ty).map (·.size) = some 16) :
    (results fn tmps).run P w = .ok (.tuple #[.agg (numA f), v]) w := by
  obtain ⟨t, hn⟩ := hn
  rw [results_cell_tmp h, hp, hv]
  have hl := run_loadVar_row (P := P) w B t ty (numA f) (0, 0) _ hn hu rfl (by rw [numA_size]; exact hi)
  simp [asAddr, hl, Result.andThen]

set_option maxRecDepth 100000 in
theorem refget4_calls (f : Nat → Int) (kind : Int) (w : World) : Calls Try.prog 10 #[.agg (numA f), .int .i64 kind] w fun e w' => e = .returned (.int .i64 (getF f kind)) ∧ Turns (fun _ => False) w w' := by
  have HT : Hid (Turns (fun _ => False) w (w.alloc (.cells (numA f) 33))) := (Turns.refl _ _).alloc _
  have hn := Num16.new w f 33
  rcases inK_cases kind with ⟨k, hk, rfl, hin⟩ | ⟨hin, ho⟩
  · rw [getF_in f hin]
    have hc := hn.cell k hk
    clear hin hn
    generalize f k = x at *
    generalize numA f = a at *
    go_enter Try.func10, Try.ntmps10
    go_wp2
    go_ret
    exact ⟨rfl, HT.out⟩
  · rw [getF_out f hin]
    clear hin hn
    generalize numA f = a at *
    rcases ho with ho | ⟨h0, ho⟩
    all_goals
      go_enter Try.func10, Try.ntmps10
      go_wp2
      go_ret
      exact ⟨rfl, HT.out⟩

/-- A row and a truth are told. -/
def TellsRow (g : Nat → Int) (v : Value) (w : World) (e : Ending) (w' : World) : Prop := e = .returned (.tuple #[.agg (numA g), v]) ∧ Turns (fun _ => False) w w'
/-- What a row is boxed into, and where the answer will lie. -/
theorem boxes16 (w : World) (f g : Nat → Int) (t t' : TypeId) : Num16 ((w.alloc (.cells (numA f) t)).alloc (.cells (numA g) t')) w.heap.size f ∧ Num16 ((w.alloc (.cells (numA f) t)).alloc (.cells (numA g) t')) (w.heap.size + 1) g ∧ Turns (fun _ => False) w ((w.alloc (.cells (numA f) t)).alloc (.cells (numA g) t')) := by
  refine ⟨(Num16.new w f t).still ((Turns.refl (fun _ => False) _).alloc _), ?_, ((Turns.refl (fun _ => False) _).alloc _).alloc _⟩
  have := Num16.new (w.alloc (.cells (numA f) t)) g t'
  simpa using this

set_option maxRecDepth 100000 in
set_option maxHeartbeats 1000000 in
theorem refset4_calls (f : Nat → Int) (kind tx : Int) (may : Bool) (w : World) : Calls Try.prog 9 #[.agg (numA f), .int .i64 kind, .int .i64 tx, .bool may] w (TellsRow (toF f kind tx may) (.bool (inK kind && may)) w) := by
  have hnot : ∀ (x : Bool) (w : World), (Op.unary .not (.bool x)).run Try.prog w = .ok (.bool (!x)) w := fun _ _ => rfl
  have hz := zeroRow_run
  obtain ⟨b0, b1, bt⟩ := boxes16 w f (fun _ => 0) 33 33
  have hsz := numA_size
  have HB0 := Lib.hid b0
  have HB1 := Lib.hid b1
  have HBT := Lib.hid bt
  clear b0 b1 bt
  go_enter Try.func9, Try.ntmps9
  go_upto_region 1 with fail
  generalize (w.alloc (.cells (numA f) 33)).alloc (.cells (numA fun _ => 0) 33) = W at *
  have hW : w.heap.size + 1 < W.heap.size := HB1.out.lt
  clear hz
  by_cases hgo : inK kind && may
  · obtain ⟨k, hk, rfl, hin⟩ : ∃ k : Nat, k < 16 ∧ kind = k ∧ inK kind = true := by
      rcases inK_cases kind with h | ⟨h, _⟩
      · exact h
      · rw [h] at hgo; cases hgo
    have hmay : may = true := by rw [hin] at hgo; exact hgo
    subst hmay
    have HE1 := Lib.hid (toF_in f hin tx)
    have HE2 := Lib.hid hgo
    have hc := HB0.out.cell k hk
    have hf := HB0.out.free k
    have hn2 := HB0.out.set k tx
    have ht2 : Turns (fun i => i = w.heap.size) W (W.setCell ⟨w.heap.size, k, none⟩ (.int .i64 tx)) := (Turns.refl (fun i => i = w.heap.size) _).setCell (p := ⟨w.heap.size, k, none⟩) (fun _ => rfl) _
    have hn3 := HB1.out.turns ht2 (by omega)
    have hst := hn3.store_run Try.prog (setF f k tx)
    have HN2 := Lib.hid hn2
    have HN3 := Lib.hid (hn3.setRow (setF f k tx))
    have HT2 := Lib.hid ((HBT.out.next ht2 (fun i hi e => by omega)).setRow (g := w.heap.size + 1) (fun h => by omega) (numA (setF f k tx)))
    clear hgo hin hn2 ht2 hn3 HB0 HB1 HBT
    obtain ⟨t2, hh2⟩ := HN2.out
    have HH2 := Lib.hid hh2
    clear hh2 HN2
    go_wp2_with (with_reducible refine wpList_load_row rfl 33 (.tmp 4) rfl w.heap.size rfl t2 (numA (setF f k tx)) (0, 0) _ HH2.out Try.underlying33 rfl (by rw [numA_size]; exact sizeRow) ?_)
    exact bodyPost_ret (v := .tuple #[.agg (numA (setF f k tx)), .bool true]) (results_num Try.results9 _ _ _ (w.heap.size + 1) (setF f k tx) _ rfl rfl HN3.out Try.underlying33 sizeRow) rfl ⟨by rw [HE1.out, HE2.out], HT2.out⟩
  · have hgo' : (inK kind && may) = false := by simpa using hgo
    have hf : toF f kind tx may = f := by unfold toF; rw [hgo']; rfl
    have HE1 := Lib.hid hf
    have HE2 := Lib.hid hgo'
    have hcs : kind < 0 ∨ (0 ≤ kind ∧ 16 ≤ kind) ∨ (0 ≤ kind ∧ kind < 16 ∧ may = false) := by
      rcases inK_cases kind with ⟨k, hk, rfl, h⟩ | ⟨_, h⟩
      · rw [h] at hgo'
        exact .inr (.inr ⟨by omega, by omega, hgo'⟩)
      · rcases h with h | h
        · exact .inl h
        · exact .inr (.inl h)
    have hst := HB1.out.store_run Try.prog f
    have HN3 := Lib.hid (HB1.out.setRow f)
    have HT2 := Lib.hid (HBT.out.setRow (g := w.heap.size + 1) (fun h => by omega) (numA f))
    obtain ⟨t2, hh2⟩ := HB0.out
    have HH2 := Lib.hid hh2
    clear hh2 hgo hgo' hf HB0 HB1 HBT
    rcases hcs with h1 | ⟨h0, h1⟩ | ⟨h0, h1, rfl⟩
    all_goals
      go_wp2_with (with_reducible refine wpList_load_row rfl 33 (.tmp 4) rfl w.heap.size rfl t2 (numA f) (0, 0) _ HH2.out Try.underlying33 rfl (by rw [numA_size]; exact sizeRow) ?_)
      exact bodyPost_ret (v := .tuple #[.agg (numA f), .bool false]) (results_num Try.results9 _ _ _ (w.heap.size + 1) f _ rfl rfl HN3.out Try.underlying33 sizeRow) rfl ⟨by rw [HE1.out, HE2.out], HT2.out⟩
end Go.Proofs.Ytbpccjofopenoaa
