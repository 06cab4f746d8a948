/-
  Two operations are compared field by field.
  Conditions: none.
-/
import Derived.Test.YtacmjmfdhegojaaDoorOpOwn
import Derived.Laws.StructEq
import Derived.ChangeKeysEq
namespace Go.Proofs.YtacmjmfdhegojaaDoor
open Go.RowKit

/-- All fields are the same. -/
def same14 (x y : O14) : Bool := decide (x.kd = y.kd ∧ x.a = y.a ∧ x.b = y.b ∧ x.nd = y.nd ∧ x.rl = y.rl)
theorem same14_iff {x y : O14} : same14 x y = true ↔ x = y := by
  obtain ⟨a, b, c, d, e⟩ := x
  obtain ⟨a', b', c', d', e'⟩ := y
  simp [same14]
theorem u8_ne14 {x y : UInt8} (h : x ≠ y) : ((x.toNat : Int) == (y.toNat : Int)) = false := by
  rw [beq_eq_false_iff_ne]
  intro e
  exact h (UInt8.toNat_inj.1 (by omega))
theorem u8_eq14 (x y : UInt8) : ((x.toNat : Int) == (y.toNat : Int)) = decide (x = y) := by
  by_cases h : x = y
  · subst h; simp
  · rw [u8_ne14 h, decide_eq_false h]
theorem str_eq14 (x y : ByteArray) : (x.toList == y.toList) = decide (x = y) := by
  by_cases h : x = y
  · subst h; simp
  · rw [decide_eq_false h, beq_eq_false_iff_ne]
    intro e
    rw [ByteArray.toList_eq, ByteArray.toList_eq] at e
    exact h (ByteArray.ext (Array.toList_inj.1 e))

theorem equal14 (x y : O14) (w : World) : (Op.equalIn 10000 24 x.v y.v).run Tryd.prog w = .ok (same14 x y) w := by
  have ht : Tryd.prog.underlying 24 = some (.struct (Tryd.prog.fieldsOf 24)) := by kernel_rfl
  have hp : Tryd.prog.stoodInHeld 24 = false := by kernel_rfl
  have hf : (Tryd.prog.fieldsOf 24).toList.map (fun f => (f.name, f.type, f.offset)) = [("Kind", 5, 0), ("A", 9, 1), ("B", 9, 2), ("Node", 5, 3), ("Release", 22, 4)] := by kernel_rfl
  have hu := Tryd.underlying9
  have hb := Tryd.underlying5
  have hr := Tryd.underlying22
  unfold O14.v O14.cells
  rw [run_equalIn_agg w 9999 24 _ _ ht hp]
  generalize (Tryd.prog.fieldsOf 24).toList = fs at hf
  obtain ⟨f1, fs1, rfl, e1, h2⟩ := List.map_eq_cons_iff.1 hf
  obtain ⟨f2, fs2, rfl, e2, h3⟩ := List.map_eq_cons_iff.1 h2
  obtain ⟨f3, fs3, rfl, e3, h4⟩ := List.map_eq_cons_iff.1 h3
  obtain ⟨f4, fs4, rfl, e4, h5⟩ := List.map_eq_cons_iff.1 h4
  obtain ⟨f5, fs5, rfl, e5, h6⟩ := List.map_eq_cons_iff.1 h5
  obtain rfl := List.map_eq_nil_iff.1 h6
  simp only [Prod.mk.injEq] at e1 e2 e3 e4 e5
  obtain ⟨a1, a2, a3⟩ := e1
  obtain ⟨b1, b2, b3⟩ := e2
  obtain ⟨c1, c2, c3⟩ := e3
  obtain ⟨d1, d2, d3⟩ := e4
  obtain ⟨g1, g2, g3⟩ := e5
  have he : ∀ s t : ByteArray, (Op.equalIn 9999 9 (.string s) (.string t)).run Tryd.prog w = .ok (decide (s = t)) w := fun s t => by rw [run_equalIn_string (P := Tryd.prog) w 9998 9 s t hu, str_eq14]
  have hi : ∀ p q : UInt8, (Op.equalIn 9999 5 (.int .u8 p.toNat) (.int .u8 q.toNat)).run Tryd.prog w = .ok (decide (p = q)) w := fun p q => by rw [run_equalIn_int (P := Tryd.prog) w 9998 5 .u8 .u8 _ _ hb, u8_eq14]
  have hj : ∀ p q : UInt8, (Op.equalIn 9999 22 (.int .u8 p.toNat) (.int .u8 q.toNat)).run Tryd.prog w = .ok (decide (p = q)) w := fun p q => by rw [run_equalIn_int (P := Tryd.prog) w 9998 22 .u8 .u8 _ _ hr, u8_eq14]
  have n1 : ¬ ("Kind" = "_") := by decide
  have n2 : ¬ ("A" = "_") := by decide
  have n3 : ¬ ("B" = "_") := by decide
  have n4 : ¬ ("Node" = "_") := by decide
  have n5 : ¬ ("Release" = "_") := by decide
  obtain ⟨xk, xa, xb, xn, xr⟩ := x
  obtain ⟨yk, ya, yb, yn, yr⟩ := y
  simp [Op.eqFields, a1, a2, a3, b1, b2, b3, c1, c2, c3, d1, d2, d3, g1, g2, g3, part, isAgg, run_underlying hu, run_underlying hb, run_underlying hr, he, hi, hj, Result.andThen, n1, n2, n3, n4, n5, same14]
  by_cases k1 : xk = yk <;> simp [k1]
  by_cases k2 : xa = ya <;> simp [k2]
  by_cases k3 : xb = yb <;> simp [k3]
  by_cases k4 : xn = yn <;> simp [k4]
  by_cases k5 : xr = yr <;> simp [k5]
theorem equalR14 (x y : O14) (w : World) : (Op.equalIn 10000 26 x.v y.v).run Tryd.prog w = .ok (same14 x y) w := by
  have ht : Tryd.prog.underlying 26 = some (.struct (Tryd.prog.fieldsOf 26)) := by kernel_rfl
  have hp : Tryd.prog.stoodInHeld 26 = false := by kernel_rfl
  have hf : (Tryd.prog.fieldsOf 26).toList.map (fun f => (f.name, f.type, f.offset)) = [("Kind", 5, 0), ("A", 9, 1), ("B", 9, 2), ("Node", 5, 3), ("Release", 22, 4)] := by kernel_rfl
  have hu := Tryd.underlying9
  have hb := Tryd.underlying5
  have hr := Tryd.underlying22
  unfold O14.v O14.cells
  rw [run_equalIn_agg w 9999 26 _ _ ht hp]
  generalize (Tryd.prog.fieldsOf 26).toList = fs at hf
  obtain ⟨f1, fs1, rfl, e1, h2⟩ := List.map_eq_cons_iff.1 hf
  obtain ⟨f2, fs2, rfl, e2, h3⟩ := List.map_eq_cons_iff.1 h2
  obtain ⟨f3, fs3, rfl, e3, h4⟩ := List.map_eq_cons_iff.1 h3
  obtain ⟨f4, fs4, rfl, e4, h5⟩ := List.map_eq_cons_iff.1 h4
  obtain ⟨f5, fs5, rfl, e5, h6⟩ := List.map_eq_cons_iff.1 h5
  obtain rfl := List.map_eq_nil_iff.1 h6
  simp only [Prod.mk.injEq] at e1 e2 e3 e4 e5
  obtain ⟨a1, a2, a3⟩ := e1
  obtain ⟨b1, b2, b3⟩ := e2
  obtain ⟨c1, c2, c3⟩ := e3
  obtain ⟨d1, d2, d3⟩ := e4
  obtain ⟨g1, g2, g3⟩ := e5
  have he : ∀ s t : ByteArray, (Op.equalIn 9999 9 (.string s) (.string t)).run Tryd.prog w = .ok (decide (s = t)) w := fun s t => by rw [run_equalIn_string (P := Tryd.prog) w 9998 9 s t hu, str_eq14]
  have hi : ∀ p q : UInt8, (Op.equalIn 9999 5 (.int .u8 p.toNat) (.int .u8 q.toNat)).run Tryd.prog w = .ok (decide (p = q)) w := fun p q => by rw [run_equalIn_int (P := Tryd.prog) w 9998 5 .u8 .u8 _ _ hb, u8_eq14]
  have hj : ∀ p q : UInt8, (Op.equalIn 9999 22 (.int .u8 p.toNat) (.int .u8 q.toNat)).run Tryd.prog w = .ok (decide (p = q)) w := fun p q => by rw [run_equalIn_int (P := Tryd.prog) w 9998 22 .u8 .u8 _ _ hr, u8_eq14]
  have n1 : ¬ ("Kind" = "_") := by decide
  have n2 : ¬ ("A" = "_") := by decide
  have n3 : ¬ ("B" = "_") := by decide
  have n4 : ¬ ("Node" = "_") := by decide
  have n5 : ¬ ("Release" = "_") := by decide
  obtain ⟨xk, xa, xb, xn, xr⟩ := x
  obtain ⟨yk, ya, yb, yn, yr⟩ := y
  simp [Op.eqFields, a1, a2, a3, b1, b2, b3, c1, c2, c3, d1, d2, d3, g1, g2, g3, part, isAgg, run_underlying hu, run_underlying hb, run_underlying hr, he, hi, hj, Result.andThen, n1, n2, n3, n4, n5, same14]
  by_cases k1 : xk = yk <;> simp [k1]
  by_cases k2 : xa = ya <;> simp [k2]
  by_cases k3 : xb = yb <;> simp [k3]
  by_cases k4 : xn = yn <;> simp [k4]
  by_cases k5 : xr = yr <;> simp [k5]
theorem eql14 (x y : O14) (w : World) : (binOp .eql 24 x.v y.v).run Tryd.prog w = .ok (.bool (same14 x y)) w := by
  have h := equal14 x y w
  unfold O14.v at h ⊢
  rw [run_eql_struct, h]
  rfl
theorem neqR14 (x y : O14) (w : World) : (binOp .neq 26 x.v y.v).run Tryd.prog w = .ok (.bool (!same14 x y)) w := by
  have h := equalR14 x y w
  unfold O14.v at h ⊢
  rw [run_neq_struct, h]
  rfl
end Go.Proofs.YtacmjmfdhegojaaDoor
