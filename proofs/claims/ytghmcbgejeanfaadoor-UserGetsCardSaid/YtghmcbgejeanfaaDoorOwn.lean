/-
  A region that draws its order, whose last operation overwrites a slot that an earlier one reads: until then the slot holds what it held.
  Conditions: no two operations write one slot; the overwriting one waits for all ahead of it.
-/
import Derived.Test.YtghmcbgejeanfaaDoorGen
namespace Go.Proofs.YtghmcbgejeanfaaDoor
open Go.RowKit

section
variable {P : Program} {ops : Array Oper} {Q : Exit → Act → World → Prop}
/-- As wp_region_inv, where operation k overwrites a slot that held y. -/
theorem wp_region_own {id : Nat} {w : World} {a : Act} (hm : P.follows .mixedOrders = true) (R : World → Prop) (Y : Nat → Value → World → Prop) (k : Nat) (y : Value) (F : (Nat → Value) → Act) (hF : ∀ x, putL (ops.toList.map (·.dst)) x 0 a = F x)
    (hap : apartL (ops.toList.map (·.dst)) = true) (hback : (ops.toList.zipIdx.all fun p => p.1.after.all fun e => !(Region.binds .any e) || decide (e.on < p.2)) = true) (hR : R w.drew)
    (hy : ownAt a (((ops.toList.map (·.dst))[k]?).getD none) = y)
    (hk : ((List.range k).all fun d => (ops.toList[k]?.map fun o => o.after.toList.any fun e => Region.binds .any e && e.on == d).getD false) = true)
    (step : AllO (fun i o => ∀ (x : Nat → Value) (w : World), R w → (i < k → x k = y) → (∀ j, (o.after.toList.any fun e => Region.binds .any e && e.on == j) = true → Y j (x j) w) →
      ∀ K : Act → World → Prop, (∀ v w', Y i v w' → R w' → (∀ j u, Y j u w → Y j u w') → K ((F x).put o.dst v) w') →
        if Region.wanted o (yielded ops (F x).tmps) = true then Oper.wp P o (F x) w K Q else K ((F x).put o.dst undef) w) ops.toList 0)
    (fin : ∀ (x : Nat → Value) (w : World), R w → (∀ j, j < ops.size → Y j (x j) w) → Q .normal (F x) w) : (Code.region id ops true).wp P Q a w := by
  refine wp_region_any hm ?_
  have hb : ∀ (i : Nat) (o : Oper), ops[i]? = some o → ∀ e ∈ o.after, Region.binds .any e = true → e.on < i := by
    intro i o ho e he hbd
    have hin : (o, i) ∈ ops.toList.zipIdx := by
      rw [List.mem_zipIdx_iff_getElem?]
      simpa using ho
    have := List.all_eq_true.1 hback _ hin
    have := Array.all_eq_true_iff_forall_mem.1 this e he
    rw [hbd] at this
    simpa using this
  have h0 : (fun j => (Array.replicate ops.size false).getD j false) = fun _ => false := by
    funext j
    by_cases h : j < ops.size <;> simp [Array.getD_eq_getD_getElem?, h]
  have hkd : ∀ o, ops[k]? = some o → ∀ d, d < k → (o.after.toList.any fun e => Region.binds .any e && e.on == d) = true := by
    intro o ho d hd
    have := List.all_eq_true.1 hk d (List.mem_range.2 hd)
    have ho' : ops.toList[k]? = some o := by simpa using ho
    rw [ho'] at this
    exact this
  have := wpAny_gen (P := P) (md := .any) (Q := Q) a (fun L x W => R W ∧ (∀ j, L j = true → Y j (x j) W) ∧ (L k = false → x k = y) ∧ (L k = true → ∀ j, j < k → L j = true)) hap hb (fun i o ho L x w h1 h2 h3 K hK => by
      obtain ⟨hr, hY, hx, hc⟩ := h3
      have hs := step.at_ i o (by simpa using ho)
      rw [Nat.zero_add] at hs
      rw [hF] at hK ⊢
      refine hs x w hr (fun hik => hx ?_) (fun j hj => hY j (h2 j hj)) K (fun v w' hv hr' hkeep => hK v w' ⟨hr', fun j hj => ?_, fun hl => ?_, fun hl j hj => ?_⟩)
      · cases hLk : L k with
        | false => rfl
        | true => rw [hc hLk i hik] at h1; cases h1
      · by_cases e : j = i
        · subst e
          rw [show upd x j v j = v from if_pos rfl]
          exact hv
        · rw [show upd x i v j = x j from if_neg e]
          rw [show updL L i j = L j from if_neg e] at hj
          exact hkeep j _ (hY j hj)
      · by_cases e : k = i
        · rw [show updL L i k = true from if_pos e] at hl; cases hl
        · rw [show updL L i k = L k from if_neg e] at hl
          rw [show upd x i v k = x k from if_neg e]
          exact hx hl
      · by_cases ej : j = i
        · exact if_pos ej
        · rw [show updL L i j = L j from if_neg ej]
          by_cases e : k = i
          · subst e
            exact h2 j (hkd o ho j hj)
          · rw [show updL L i k = L k from if_neg e] at hl
            exact hc hl j hj) (fun L x w h1 h2 => by rw [hF]; exact fin x w h2.1 (fun j hj => h2.2.1 j (h1 j hj))) ops.size (Array.replicate ops.size false) (fun i => ownAt a (((ops.toList.map (·.dst))[i]?).getD none)) w.drew (by simp) (by simp)
      (by rw [h0]; exact ⟨hR, fun _ h => by (cases h), fun _ => hy, fun h => by (cases h)⟩)
  rw [putL_own (fun i d hd => by rw [Nat.zero_add, hd]; rfl)] at this
  exact this
end
end Go.Proofs.YtghmcbgejeanfaaDoor
