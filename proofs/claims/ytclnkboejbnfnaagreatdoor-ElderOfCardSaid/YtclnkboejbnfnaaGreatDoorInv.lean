/-
  A region that draws its order, whose operations each keep what the others have made: whatever the order, at its end each operation's value is as was asked.
  Conditions: no two operations write one slot; each waits for earlier ones alone.
-/
import Derived.Test.YtclnkboejbnfnaaGreatDoorWords
import Derived.Orders
namespace Go.Proofs.YtclnkboejbnfnaaGreatDoor
open Go.RowKit

/-- Values put into slots, one behind the other. -/
def putL : List (Option Tmp) → (Nat → Value) → Nat → Act → Act
  | [], _, _, a => a
  | d :: ds, x, k, a => putL ds x (k + 1) (a.put d (x k))
/-- No slot stands twice. -/
def apartL : List (Option Tmp) → Bool
  | [] => true
  | none :: r => apartL r
  | some d :: r => !(r.contains (some d)) && apartL r
def upd (x : Nat → Value) (i : Nat) (v : Value) : Nat → Value := fun j => if j = i then v else x j

theorem put_put (a : Act) (d : Option Tmp) (u v : Value) : (a.put d u).put d v = a.put d v := by
  cases d with
  | none => rfl
  | some d => simp [Act.put]
theorem putL_put {ds : List (Option Tmp)} {x : Nat → Value} {d : Option Tmp} {v : Value} : ∀ {k : Nat} {a : Act}, (∀ t, d = some t → some t ∉ ds) → (putL ds x k a).put d v = putL ds x k (a.put d v) := by
  induction ds with
  | nil => intro k a _; rfl
  | cons e ds ih =>
    intro k a h
    show (putL ds x (k + 1) (a.put e (x k))).put d v = putL ds x (k + 1) ((a.put d v).put e (x k))
    rw [ih (fun t ht hm => h t ht (List.mem_cons_of_mem _ hm)), Act.put_comm]
    intro t he hd
    exact h t hd (he ▸ List.mem_cons_self ..)
theorem putL_congr {ds : List (Option Tmp)} {x y : Nat → Value} : ∀ {k : Nat} {a : Act}, (∀ j, k ≤ j → x j = y j) → putL ds x k a = putL ds y k a := by
  induction ds with
  | nil => intro _ _ _; rfl
  | cons d ds ih =>
    intro k a h
    show putL ds x (k + 1) (a.put d (x k)) = putL ds y (k + 1) (a.put d (y k))
    rw [h k (Nat.le_refl _), ih (fun j hj => h j (by omega))]
theorem putL_upd {ds : List (Option Tmp)} {x : Nat → Value} {v : Value} : ∀ {i k : Nat} {a : Act} {d : Option Tmp}, apartL ds = true → ds[i]? = some d → (putL ds x k a).put d v = putL ds (upd x (k + i) v) k a := by
  induction ds with
  | nil => intro i k a d _ h; simp at h
  | cons e ds ih =>
    intro i k a d hap hi
    have hap' : apartL ds = true ∧ ∀ t, e = some t → some t ∉ ds := by
      cases e with
      | none => exact ⟨hap, fun t h => by cases h⟩
      | some t =>
        simp only [apartL, Bool.and_eq_true, Bool.not_eq_true', List.contains_eq_mem, decide_eq_false_iff_not] at hap
        exact ⟨hap.2, fun u hu => by injection hu with hu; subst hu; exact hap.1⟩
    cases i with
    | zero =>
      have he : e = d := by simpa using hi
      subst he
      show (putL ds x (k + 1) (a.put e (x k))).put e v = putL ds (upd x k v) (k + 1) (a.put e (upd x k v k))
      rw [putL_put hap'.2, put_put, show upd x k v k = v from if_pos rfl]
      exact putL_congr (fun j hj => (if_neg (by omega)).symm)
    | succ i =>
      show (putL ds x (k + 1) (a.put e (x k))).put d v = putL ds (upd x (k + (i + 1)) v) (k + 1) (a.put e (upd x (k + (i + 1)) v k))
      rw [ih hap'.1 (by simpa using hi), show upd x (k + (i + 1)) v k = x k from if_neg (by omega), show k + 1 + i = k + (i + 1) by omega]

section
variable {P : Program} {ops : Array Oper} {Q : Exit → Act → World → Prop} {md : Region.Mode}

theorem all_listed {listed : Array Bool} (hsz : listed.size = ops.size) (back : ∀ (i : Nat) (o : Oper), ops[i]? = some o → ∀ e ∈ o.after, e.on < i) (h : Region.ready md ops listed = []) :
    ∀ j, j < ops.size → listed.getD j false = true := by
  intro j
  induction j using Nat.strongRecOn with
  | _ j ih =>
    intro hj
    cases hl : listed.getD j false with
    | true => rfl
    | false =>
      exfalso
      have hm : j ∈ Region.ready md ops listed := by
        rw [mem_ready]
        refine ⟨?_, ops[j], Array.getElem?_eq_getElem hj, fun e he _ => ih e.on (back j _ (Array.getElem?_eq_getElem hj) e he) (Nat.lt_trans (back j _ (Array.getElem?_eq_getElem hj) e he) hj)⟩
        have hlt : j < listed.size := by omega
        simpa [Array.getD_eq_getD_getElem?, Array.getElem?_eq_getElem hlt] using hl
      rw [h] at hm
      cases hm

/-- What is listed stands on what is listed. -/
def Closed (md : Region.Mode) (ops : Array Oper) (L : Nat → Bool) : Prop := ∀ (j : Nat) (o : Oper), ops[j]? = some o → L j = true → ∀ d, (o.after.toList.any fun e => Region.binds md e && e.on == d) = true → L d = true
def updL (L : Nat → Bool) (i : Nat) : Nat → Bool := fun j => if j = i then true else L j

/-- THE REGION BY WHAT EACH OPERATION MAKES. 'Y j v w': v is what operation j was to make, in w; 'G L w': what is known of the world where the operations of L have been carried out. -/
theorem wpAny_inv (a : Act) (Y : Nat → Value → World → Prop) (G : (Nat → Bool) → World → Prop) (hap : apartL (ops.toList.map (·.dst)) = true)
    (back : ∀ (i : Nat) (o : Oper), ops[i]? = some o → ∀ e ∈ o.after, e.on < i)
    (step : ∀ (i : Nat) (o : Oper), ops[i]? = some o → ∀ (L : Nat → Bool) (x : Nat → Value) (w : World), L i = false → (∀ d, (o.after.toList.any fun e => Region.binds md e && e.on == d) = true → L d = true) → Closed md ops L → G L w → (∀ j, L j = true → Y j (x j) w) →
      ∀ K : Act → World → Prop, (∀ v w', Y i v w' → G (updL L i) w' → (∀ j, L j = true → Y j (x j) w → Y j (x j) w') → K ((putL (ops.toList.map (·.dst)) x 0 a).put o.dst v) w') →
        if Region.wanted o (yielded ops (putL (ops.toList.map (·.dst)) x 0 a).tmps) = true then Oper.wp P o (putL (ops.toList.map (·.dst)) x 0 a) w K Q else K ((putL (ops.toList.map (·.dst)) x 0 a).put o.dst undef) w)
    (fin : ∀ (L : Nat → Bool) (x : Nat → Value) (w : World), (∀ j, j < ops.size → L j = true) → G L w → (∀ j, j < ops.size → Y j (x j) w) → Q .normal (putL (ops.toList.map (·.dst)) x 0 a) w) :
    ∀ (fuel : Nat) (listed : Array Bool) (x : Nat → Value) (w : World), listed.size = ops.size → listed.toList.count false ≤ fuel → Closed md ops (fun j => listed.getD j false) → G (fun j => listed.getD j false) w → (∀ j, listed.getD j false = true → Y j (x j) w) →
      wpAny P md ops Q fuel listed (putL (ops.toList.map (·.dst)) x 0 a) w := by
  intro fuel
  induction fuel with
  | zero =>
    intro listed x w hsz hc hcl hG hY
    have hall : ∀ j, j < ops.size → listed.getD j false = true := by
      intro j hj
      cases hl : listed.getD j false with
      | true => rfl
      | false =>
        exfalso
        have hlt : j < listed.size := by omega
        have : false ∈ listed.toList := by
          rw [List.mem_iff_getElem]
          exact ⟨j, by simpa using hlt, by simpa [Array.getD_eq_getD_getElem?, Array.getElem?_eq_getElem hlt] using hl⟩
        have := List.count_pos_iff.2 this
        omega
    refine ⟨?_, fin _ x w hall hG (fun j hj => hY j (hall j hj))⟩
    rw [List.eq_nil_iff_forall_not_mem]
    intro j hj
    rw [mem_ready] at hj
    obtain ⟨h0, o, ho, _⟩ := hj
    have hj' := (Array.getElem?_eq_some_iff.1 ho).1
    have := hall j hj'
    have hlt : j < listed.size := by omega
    simp [Array.getD_eq_getD_getElem?, Array.getElem?_eq_getElem hlt] at h0 this
    rw [h0] at this
    cases this
  | succ fuel ih =>
    intro listed x w hsz hc hcl hG hY
    refine ⟨fun hr => fin _ x w (all_listed hsz back hr) hG (fun j hj => hY j (all_listed hsz back hr j hj)), fun i hi => ?_⟩
    have hi' := hi
    rw [mem_ready] at hi'
    obtain ⟨h0, o, ho, hdep⟩ := hi'
    have hlt : i < listed.size := by have := (Array.getElem?_eq_some_iff.1 ho).1; omega
    have hfalse : listed[i] = false := by simpa [Array.getD_eq_getD_getElem?, Array.getElem?_eq_getElem hlt] using h0
    have hdeps : ∀ d, (o.after.toList.any fun e => Region.binds md e && e.on == d) = true → listed.getD d false = true := by
      intro j hj
      rw [List.any_eq_true] at hj
      obtain ⟨e, he, hb⟩ := hj
      simp only [Bool.and_eq_true, beq_iff_eq] at hb
      obtain ⟨hb1, rfl⟩ := hb
      exact hdep e (by simpa using he) hb1
    have hupd : (fun j => (listed.setIfInBounds i true).getD j false) = updL (fun j => listed.getD j false) i := by
      funext j
      unfold updL
      by_cases e : j = i
      · subst e; simp [hlt]
      · rw [if_neg e, getD_set_ne false (Ne.symm e)]
    have hs := step i o ho (fun j => listed.getD j false) x w (by simp [Array.getD_eq_getD_getElem?, Array.getElem?_eq_getElem hlt, hfalse]) hdeps hcl hG hY (wpAny P md ops Q fuel (listed.setIfInBounds i true)) (by
      intro v w' hy hG' hk
      have hd : (ops.toList.map (·.dst))[i]? = some o.dst := by simp [ho]
      rw [putL_upd hap hd, Nat.zero_add]
      refine ih _ _ _ (by simpa using hsz) ?_ ?_ ?_ ?_
      · have hcs := List.count_set (a := true) (b := false) (l := listed.toList) (i := i) (by simpa using hlt)
        have hpos : 0 < listed.toList.count false := List.count_pos_iff.2 (by rw [← hfalse]; simp)
        rw [Array.toList_setIfInBounds, hcs, show listed.toList[i]'(by simpa using hlt) = false from by simpa using hfalse, if_pos (by rfl), if_neg (by decide)]
        omega
      · rw [hupd]
        intro j oj hoj hLj d hd
        unfold updL at hLj ⊢
        by_cases e : d = i
        · rw [if_pos e]
        · rw [if_neg e]
          by_cases ej : j = i
          · subst ej
            rw [ho] at hoj
            injection hoj with hoj
            subst hoj
            exact hdeps d hd
          · rw [if_neg ej] at hLj
            exact hcl j oj hoj hLj d hd
      · rw [hupd]; exact hG'
      · intro j hj
        by_cases e : j = i
        · subst e; rw [show upd x j v j = v from if_pos rfl]; exact hy
        · rw [show upd x i v j = x j from if_neg e]
          rw [getD_set_ne false (Ne.symm e)] at hj
          exact hk j hj (hY j hj))
    unfold wpOp
    rw [ho]
    by_cases hw : Region.wanted o (yielded ops (putL (ops.toList.map (·.dst)) x 0 a).tmps) = true
    · rw [if_pos hw] at hs
      simp only [hw, if_true]
      exact .inl hs
    · rw [if_neg hw] at hs
      simp only [hw]
      exact hs

/-- A slot's own value. -/
def ownAt (a : Act) : Option Tmp → Value
  | some d => a.tmps.getD d undef
  | none => undef
theorem put_own (a : Act) (d : Option Tmp) : a.put d (ownAt a d) = a := by
  cases d with
  | none => rfl
  | some d =>
    have : a.tmps.setIfInBounds d (a.tmps.getD d undef) = a.tmps := by
      apply Array.ext
      · simp
      · intro i h1 h2
        rw [Array.getElem_setIfInBounds]
        split
        · rename_i h; subst h; simp [Array.getD_eq_getD_getElem?, Array.getElem?_eq_getElem h2]
        · rfl
    simp only [Act.put, ownAt, this]
theorem putL_own {ds : List (Option Tmp)} {x : Nat → Value} {a : Act} : ∀ {k : Nat}, (∀ i d, ds[i]? = some d → x (k + i) = ownAt a d) → putL ds x k a = a := by
  induction ds with
  | nil => intro _ _; rfl
  | cons d ds ih =>
    intro k h
    show putL ds x (k + 1) (a.put d (x k)) = a
    rw [show x k = ownAt a d from h 0 d rfl, put_own]
    exact ih (fun i e he => by have := h (i + 1) e (by simpa using he); rwa [show k + (i + 1) = k + 1 + i by omega] at this)

/-- Of each operation of a list, in its place. -/
def AllO (φ : Nat → Oper → Prop) : List Oper → Nat → Prop
  | [], _ => True
  | o :: r, k => φ k o ∧ AllO φ r (k + 1)
theorem AllO.at_ {φ : Nat → Oper → Prop} : ∀ {l : List Oper} {k : Nat}, AllO φ l k → ∀ (i : Nat) (o : Oper), l[i]? = some o → φ (k + i) o
  | [], _, _, i, o, h => by simp at h
  | _ :: _, _, h, 0, o, he => by
    simp only [List.getElem?_cons_zero, Option.some.injEq] at he
    subst he
    exact h.1
  | _ :: r, k, h, i + 1, o, he => by
    have := AllO.at_ h.2 i o (by simpa using he)
    rwa [show k + 1 + i = k + (i + 1) by omega] at this
theorem AllO.mono {φ ψ : Nat → Oper → Prop} : ∀ {l : List Oper} {k : Nat}, AllO φ l k → (∀ i o, φ i o → ψ i o) → AllO ψ l k
  | [], _, _, _ => trivial
  | _ :: _, _, h, hm => ⟨hm _ _ h.1, AllO.mono h.2 hm⟩

/-- THE REGION, its frame written out ('F'), its operations one by one; 'G L w' told by what has been carried out. -/
theorem wp_region_st {id : Nat} {w : World} {a : Act} (hm : P.follows .mixedOrders = true) (Y : Nat → Value → World → Prop) (G : (Nat → Bool) → World → Prop) (F : (Nat → Value) → Act) (hF : ∀ x, putL (ops.toList.map (·.dst)) x 0 a = F x)
    (hap : apartL (ops.toList.map (·.dst)) = true) (hback : (ops.toList.zipIdx.all fun p => p.1.after.all fun e => decide (e.on < p.2)) = true) (hG : G (fun _ => false) w.drew)
    (step : AllO (fun i o => ∀ (L : Nat → Bool) (x : Nat → Value) (w : World), L i = false → (∀ d, (o.after.toList.any fun e => Region.binds .any e && e.on == d) = true → L d = true) → Closed .any ops L → G L w → (∀ j, L j = true → Y j (x j) w) →
      ∀ K : Act → World → Prop, (∀ v w', Y i v w' → G (updL L i) w' → (∀ j, L j = true → Y j (x j) w → Y j (x j) w') → K ((F x).put o.dst v) w') →
        if Region.wanted o (yielded ops (F x).tmps) = true then Oper.wp P o (F x) w K Q else K ((F x).put o.dst undef) w) ops.toList 0)
    (fin : ∀ (L : Nat → Bool) (x : Nat → Value) (w : World), (∀ j, j < ops.size → L j = true) → G L w → (∀ j, j < ops.size → Y j (x j) w) → Q .normal (F x) w) : (Code.region id ops true).wp P Q a w := by
  refine wp_region_any hm ?_
  have hb : ∀ (i : Nat) (o : Oper), ops[i]? = some o → ∀ e ∈ o.after, e.on < i := by
    intro i o ho e he
    have hin : (o, i) ∈ ops.toList.zipIdx := by
      rw [List.mem_zipIdx_iff_getElem?]
      simpa using ho
    have := List.all_eq_true.1 hback _ hin
    have := Array.all_eq_true_iff_forall_mem.1 this e he
    simpa using this
  have h0 : (fun j => (Array.replicate ops.size false).getD j false) = fun _ => false := by
    funext j
    by_cases h : j < ops.size <;> simp [Array.getD_eq_getD_getElem?, h]
  have := wpAny_inv (P := P) (md := .any) (Q := Q) a Y G hap hb (fun i o ho L x w h1 h2 h3 h4 h5 K hK => by
      have hs := step.at_ i o (by simpa using ho)
      rw [Nat.zero_add] at hs
      rw [hF] at hK ⊢
      exact hs L x w h1 h2 h3 h4 h5 K hK) (fun L x w h1 h2 h3 => by rw [hF]; exact fin L x w h1 h2 h3) ops.size (Array.replicate ops.size false) (fun i => ownAt a (((ops.toList.map (·.dst))[i]?).getD none)) w.drew (by simp) (by simp)
      (by rw [h0]; intro j o _ h; cases h) (by rw [h0]; exact hG) (by
    intro j hj
    have := congrFun h0 j
    rw [this] at hj
    cases hj)
  rw [putL_own (fun i d hd => by rw [Nat.zero_add, hd]; rfl)] at this
  exact this

/-- The same where the worlds that come up are told by one property. -/
theorem wp_region_inv {id : Nat} {w : World} {a : Act} (hm : P.follows .mixedOrders = true) (R : World → Prop) (Y : Nat → Value → World → Prop) (F : (Nat → Value) → Act) (hF : ∀ x, putL (ops.toList.map (·.dst)) x 0 a = F x)
    (hap : apartL (ops.toList.map (·.dst)) = true) (hback : (ops.toList.zipIdx.all fun p => p.1.after.all fun e => decide (e.on < p.2)) = true) (hR : R w.drew)
    (step : AllO (fun i o => ∀ (x : Nat → Value) (w : World), R w → (∀ j, (o.after.toList.any fun e => Region.binds .any e && e.on == j) = true → Y j (x j) w) →
      ∀ K : Act → World → Prop, (∀ v w', Y i v w' → R w' → (∀ j u, Y j u w → Y j u w') → K ((F x).put o.dst v) w') →
        if Region.wanted o (yielded ops (F x).tmps) = true then Oper.wp P o (F x) w K Q else K ((F x).put o.dst undef) w) ops.toList 0)
    (fin : ∀ (x : Nat → Value) (w : World), R w → (∀ j, j < ops.size → Y j (x j) w) → Q .normal (F x) w) : (Code.region id ops true).wp P Q a w :=
  wp_region_st hm Y (fun _ w => R w) F hF hap hback hR (step.mono fun _ _ h _ x w _ hd _ hR hY K hK => h x w hR (fun j hj => hY j (hd j hj)) K fun v w' h1 h2 h3 => hK v w' h1 h2 fun j _ h => h3 j _ h) fun _ x w _ hR hY => fin x w hR hY
end
/-- A state that moves on at the operations of cs, one behind the other. -/
def SeqG (cs : List Nat) (St : Nat → World → Prop) (L : Nat → Bool) (W : World) : Prop := ∃ m, m ≤ cs.length ∧ St m W ∧ ∀ r, r < cs.length → L (cs.getD r 0) = decide (r < m)
theorem SeqG.start {cs : List Nat} {St : Nat → World → Prop} {W : World} (h : St 0 W) : SeqG cs St (fun _ => false) W := ⟨0, Nat.zero_le _, h, fun r _ => by simp⟩
theorem SeqG.same {cs : List Nat} {St : Nat → World → Prop} {L : Nat → Bool} {W W' : World} (h : SeqG cs St L W) (i : Nat) (hi : cs.contains i = false) (hS : ∀ m, St m W → St m W') : SeqG cs St (updL L i) W' := by
  obtain ⟨m, hm, hs, hr⟩ := h
  refine ⟨m, hm, hS m hs, fun r hrl => ?_⟩
  have hne : cs.getD r 0 ≠ i := by
    intro e
    have hmem : i ∈ cs := by
      rw [← e, List.getD_eq_getElem?_getD, List.getElem?_eq_getElem hrl]
      exact List.getElem_mem hrl
    rw [List.contains_eq_mem, decide_eq_false_iff_not] at hi
    exact hi hmem
  rw [show updL L i (cs.getD r 0) = L (cs.getD r 0) from if_neg hne, hr r hrl]
theorem SeqG.at_ {cs : List Nat} {St : Nat → World → Prop} {L : Nat → Bool} {W : World} (h : SeqG cs St L W) (q : Nat) (hq : q < cs.length) (hL : L (cs.getD q 0) = false) (hp : q = 0 ∨ L (cs.getD (q - 1) 0) = true) : St q W := by
  obtain ⟨m, hm, hs, hr⟩ := h
  have h1 : ¬ q < m := by have := hr q hq; rw [hL] at this; simpa using this.symm
  have h2 : m = q := by
    rcases hp with rfl | hp
    · omega
    · have := hr (q - 1) (by omega)
      rw [hp] at this
      have : q - 1 < m := by simpa using this.symm
      omega
  rw [← h2]
  exact hs
theorem SeqG.next {cs : List Nat} {St : Nat → World → Prop} {L : Nat → Bool} {W W' : World} (h : SeqG cs St L W) (q i : Nat) (hq : q < cs.length) (hi : cs.getD q 0 = i) (hL : L i = false) (hp : q = 0 ∨ L (cs.getD (q - 1) 0) = true)
    (hnd : (List.range cs.length).all (fun r => r == q || cs.getD r 0 != i) = true) (hS : St (q + 1) W') : SeqG cs St (updL L i) W' := by
  obtain ⟨m, hm, hs, hr⟩ := h
  have h1 : ¬ q < m := by have := hr q hq; rw [hi, hL] at this; simpa using this.symm
  have h2 : m = q := by
    rcases hp with rfl | hp
    · omega
    · have := hr (q - 1) (by omega)
      rw [hp] at this
      have : q - 1 < m := by simpa using this.symm
      omega
  subst h2
  refine ⟨m + 1, by omega, hS, fun r hrl => ?_⟩
  have h3 := List.all_eq_true.1 hnd r (List.mem_range.2 hrl)
  by_cases e : r = m
  · subst e
    rw [hi, show updL L i i = true from if_pos rfl]
    simp
  · have hne : cs.getD r 0 ≠ i := by
      have e1 : (r == m) = false := by simpa using e
      rw [e1, Bool.false_or, bne_iff_ne] at h3
      exact h3
    rw [show updL L i (cs.getD r 0) = L (cs.getD r 0) from if_neg hne, hr r hrl]
    have : (r < m) ↔ (r < m + 1) := by omega
    simp [this]
end Go.Proofs.YtclnkboejbnfnaaGreatDoor
