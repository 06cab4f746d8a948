/-
  A region that draws its order, by one relation between what has been carried out, the values and the world.
  Conditions: no two operations write one slot; each waits for earlier ones alone (of what binds in whatever order).
-/
import Derived.Test.YtclnkboejbnfnaaGreatDoorInv
namespace Go.Proofs.YtclnkboejbnfnaaGreatDoor
open Go.RowKit

section
variable {P : Program} {ops : Array Oper} {Q : Exit → Act → World → Prop} {md : Region.Mode}

theorem all_listed2 {listed : Array Bool} (hsz : listed.size = ops.size) (back : ∀ (i : Nat) (o : Oper), ops[i]? = some o → ∀ e ∈ o.after, Region.binds md e = true → e.on < i) (h : Region.ready md ops listed = []) :
    ∀ j, j < ops.size → listed.getD j false = true := by
  intro j
  induction j using Nat.strongRecOn with
  | _ j ih =>
    intro hj
    cases hl : listed.getD j false with
    | true => rfl
    | false =>
      exfalso
      have hm : j ∈ Region.ready md ops listed := by
        rw [mem_ready]
        refine ⟨?_, ops[j], Array.getElem?_eq_getElem hj, fun e he hb => ih e.on (back j _ (Array.getElem?_eq_getElem hj) e he hb) (Nat.lt_trans (back j _ (Array.getElem?_eq_getElem hj) e he hb) hj)⟩
        have hlt : j < listed.size := by omega
        simpa [Array.getD_eq_getD_getElem?, Array.getElem?_eq_getElem hlt] using hl
      rw [h] at hm
      cases hm

theorem wpAny_gen (a : Act) (I : (Nat → Bool) → (Nat → Value) → World → Prop) (hap : apartL (ops.toList.map (·.dst)) = true)
    (back : ∀ (i : Nat) (o : Oper), ops[i]? = some o → ∀ e ∈ o.after, Region.binds md e = true → e.on < i)
    (step : ∀ (i : Nat) (o : Oper), ops[i]? = some o → ∀ (L : Nat → Bool) (x : Nat → Value) (w : World), L i = false → (∀ d, (o.after.toList.any fun e => Region.binds md e && e.on == d) = true → L d = true) → I L x w →
      ∀ K : Act → World → Prop, (∀ v w', I (updL L i) (upd x i v) w' → K ((putL (ops.toList.map (·.dst)) x 0 a).put o.dst v) w') →
        if Region.wanted o (yielded ops (putL (ops.toList.map (·.dst)) x 0 a).tmps) = true then Oper.wp P o (putL (ops.toList.map (·.dst)) x 0 a) w K Q else K ((putL (ops.toList.map (·.dst)) x 0 a).put o.dst undef) w)
    (fin : ∀ (L : Nat → Bool) (x : Nat → Value) (w : World), (∀ j, j < ops.size → L j = true) → I L x w → Q .normal (putL (ops.toList.map (·.dst)) x 0 a) w) :
    ∀ (fuel : Nat) (listed : Array Bool) (x : Nat → Value) (w : World), listed.size = ops.size → listed.toList.count false ≤ fuel → I (fun j => listed.getD j false) x w →
      wpAny P md ops Q fuel listed (putL (ops.toList.map (·.dst)) x 0 a) w := by
  intro fuel
  induction fuel with
  | zero =>
    intro listed x w hsz hc hI
    have hall : ∀ j, j < ops.size → listed.getD j false = true := by
      intro j hj
      cases hl : listed.getD j false with
      | true => rfl
      | false =>
        exfalso
        have hlt : j < listed.size := by omega
        have : false ∈ listed.toList := by
          rw [List.mem_iff_getElem]
          exact ⟨j, by simpa using hlt, by simpa [Array.getD_eq_getD_getElem?, Array.getElem?_eq_getElem hlt] using hl⟩
        have := List.count_pos_iff.2 this
        omega
    refine ⟨?_, fin _ x w hall hI⟩
    rw [List.eq_nil_iff_forall_not_mem]
    intro j hj
    rw [mem_ready] at hj
    obtain ⟨h0, o, ho, _⟩ := hj
    have hj' := (Array.getElem?_eq_some_iff.1 ho).1
    have := hall j hj'
    have hlt : j < listed.size := by omega
    simp [Array.getD_eq_getD_getElem?, Array.getElem?_eq_getElem hlt] at h0 this
    rw [h0] at this
    cases this
  | succ fuel ih =>
    intro listed x w hsz hc hI
    refine ⟨fun hr => fin _ x w (all_listed2 hsz back hr) hI, fun i hi => ?_⟩
    have hi' := hi
    rw [mem_ready] at hi'
    obtain ⟨h0, o, ho, hdep⟩ := hi'
    have hlt : i < listed.size := by have := (Array.getElem?_eq_some_iff.1 ho).1; omega
    have hfalse : listed[i] = false := by simpa [Array.getD_eq_getD_getElem?, Array.getElem?_eq_getElem hlt] using h0
    have hdeps : ∀ d, (o.after.toList.any fun e => Region.binds md e && e.on == d) = true → listed.getD d false = true := by
      intro j hj
      rw [List.any_eq_true] at hj
      obtain ⟨e, he, hb⟩ := hj
      simp only [Bool.and_eq_true, beq_iff_eq] at hb
      obtain ⟨hb1, rfl⟩ := hb
      exact hdep e (by simpa using he) hb1
    have hupd : (fun j => (listed.setIfInBounds i true).getD j false) = updL (fun j => listed.getD j false) i := by
      funext j
      unfold updL
      by_cases e : j = i
      · subst e; simp [hlt]
      · rw [if_neg e, getD_set_ne false (Ne.symm e)]
    have hs := step i o ho (fun j => listed.getD j false) x w (by simp [Array.getD_eq_getD_getElem?, Array.getElem?_eq_getElem hlt, hfalse]) hdeps hI (wpAny P md ops Q fuel (listed.setIfInBounds i true)) (by
      intro v w' hI'
      have hd : (ops.toList.map (·.dst))[i]? = some o.dst := by simp [ho]
      rw [putL_upd hap hd, Nat.zero_add]
      refine ih _ _ _ (by simpa using hsz) ?_ ?_
      · have hcs := List.count_set (a := true) (b := false) (l := listed.toList) (i := i) (by simpa using hlt)
        have hpos : 0 < listed.toList.count false := List.count_pos_iff.2 (by rw [← hfalse]; simp)
        rw [Array.toList_setIfInBounds, hcs, show listed.toList[i]'(by simpa using hlt) = false from by simpa using hfalse, if_pos (by rfl), if_neg (by decide)]
        omega
      · rw [hupd]; exact hI')
    unfold wpOp
    rw [ho]
    by_cases hw : Region.wanted o (yielded ops (putL (ops.toList.map (·.dst)) x 0 a).tmps) = true
    · rw [if_pos hw] at hs
      simp only [hw, if_true]
      exact .inl hs
    · rw [if_neg hw] at hs
      simp only [hw]
      exact hs

/-- THE REGION, its frame written out ('F'), its operations one by one. -/
theorem wp_region_gen {id : Nat} {w : World} {a : Act} (hm : P.follows .mixedOrders = true) (I : (Nat → Bool) → (Nat → Value) → World → Prop) (F : (Nat → Value) → Act) (hF : ∀ x, putL (ops.toList.map (·.dst)) x 0 a = F x)
    (hap : apartL (ops.toList.map (·.dst)) = true) (hback : (ops.toList.zipIdx.all fun p => p.1.after.all fun e => !(Region.binds .any e) || decide (e.on < p.2)) = true) (hI : ∀ x, I (fun _ => false) x w.drew)
    (step : AllO (fun i o => ∀ (L : Nat → Bool) (x : Nat → Value) (w : World), L i = false → (∀ d, (o.after.toList.any fun e => Region.binds .any e && e.on == d) = true → L d = true) → I L x w →
      ∀ K : Act → World → Prop, (∀ v w', I (updL L i) (upd x i v) w' → K ((F x).put o.dst v) w') →
        if Region.wanted o (yielded ops (F x).tmps) = true then Oper.wp P o (F x) w K Q else K ((F x).put o.dst undef) w) ops.toList 0)
    (fin : ∀ (L : Nat → Bool) (x : Nat → Value) (w : World), (∀ j, j < ops.size → L j = true) → I L x w → Q .normal (F x) w) : (Code.region id ops true).wp P Q a w := by
  refine wp_region_any hm ?_
  have hb : ∀ (i : Nat) (o : Oper), ops[i]? = some o → ∀ e ∈ o.after, Region.binds .any e = true → e.on < i := by
    intro i o ho e he hbd
    have hin : (o, i) ∈ ops.toList.zipIdx := by
      rw [List.mem_zipIdx_iff_getElem?]
      simpa using ho
    have := List.all_eq_true.1 hback _ hin
    have := Array.all_eq_true_iff_forall_mem.1 this e he
    rw [hbd] at this
    simpa using this
  have h0 : (fun j => (Array.replicate ops.size false).getD j false) = fun _ => false := by
    funext j
    by_cases h : j < ops.size <;> simp [Array.getD_eq_getD_getElem?, h]
  have := wpAny_gen (P := P) (md := .any) (Q := Q) a I hap hb (fun i o ho L x w h1 h2 h3 K hK => by
      have hs := step.at_ i o (by simpa using ho)
      rw [Nat.zero_add] at hs
      rw [hF] at hK ⊢
      exact hs L x w h1 h2 h3 K hK) (fun L x w h1 h2 => by rw [hF]; exact fin L x w h1 h2) ops.size (Array.replicate ops.size false) (fun i => ownAt a (((ops.toList.map (·.dst))[i]?).getD none)) w.drew (by simp) (by simp)
      (by rw [h0]; exact hI _)
  rw [putL_own (fun i d hd => by rw [Nat.zero_add, hd]; rfl)] at this
  exact this

/-- The same by what each operation makes ('Y'), and what is known of the world by what has been carried out ('G'). -/
theorem wp_region_st2 {id : Nat} {w : World} {a : Act} (hm : P.follows .mixedOrders = true) (Y : Nat → Value → World → Prop) (G : (Nat → Bool) → World → Prop) (F : (Nat → Value) → Act) (hF : ∀ x, putL (ops.toList.map (·.dst)) x 0 a = F x)
    (hap : apartL (ops.toList.map (·.dst)) = true) (hback : (ops.toList.zipIdx.all fun p => p.1.after.all fun e => !(Region.binds .any e) || decide (e.on < p.2)) = true) (hG : G (fun _ => false) w.drew)
    (step : AllO (fun i o => ∀ (L : Nat → Bool) (x : Nat → Value) (w : World), L i = false → (∀ d, (o.after.toList.any fun e => Region.binds .any e && e.on == d) = true → L d = true) → G L w → (∀ j, (o.after.toList.any fun e => Region.binds .any e && e.on == j) = true → Y j (x j) w) →
      ∀ K : Act → World → Prop, (∀ v w', Y i v w' → G (updL L i) w' → (∀ j, L j = true → Y j (x j) w → Y j (x j) w') → K ((F x).put o.dst v) w') →
        if Region.wanted o (yielded ops (F x).tmps) = true then Oper.wp P o (F x) w K Q else K ((F x).put o.dst undef) w) ops.toList 0)
    (fin : ∀ (L : Nat → Bool) (x : Nat → Value) (w : World), (∀ j, j < ops.size → L j = true) → G L w → (∀ j, j < ops.size → Y j (x j) w) → Q .normal (F x) w) : (Code.region id ops true).wp P Q a w :=
  wp_region_gen hm (fun L x W => G L W ∧ ∀ j, L j = true → Y j (x j) W) F hF hap hback (fun _ => ⟨hG, fun _ h => by cases h⟩)
    (step.mono fun i o h L x w h1 h2 ⟨h3, h4⟩ K hK => h L x w h1 h2 h3 (fun j hj => h4 j (h2 j hj)) K fun v w' hy hg hk => hK v w' ⟨hg, fun j hj => by
      by_cases e : j = i
      · subst e
        rw [show upd x j v j = v from if_pos rfl]
        exact hy
      · rw [show upd x i v j = x j from if_neg e]
        rw [show updL L i j = L j from if_neg e] at hj
        exact hk j hj (h4 j hj)⟩)
    (fun L x w h1 ⟨h2, h3⟩ => fin L x w h1 h2 fun j hj => h3 j (h1 j hj))
end
end Go.Proofs.YtclnkboejbnfnaaGreatDoor
