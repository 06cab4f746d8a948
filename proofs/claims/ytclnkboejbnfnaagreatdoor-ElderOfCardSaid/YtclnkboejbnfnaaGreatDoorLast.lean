/-
  A region that draws its order, one of whose operations changes the world for good: all that stand ahead of it have been carried out then, whatever the order; what stands behind it only hands its value on.
  Conditions: no two operations write one slot; each waits for earlier ones alone; of the one operation all earlier ones are ahead, and of each later one it.
-/
import Derived.Test.YtclnkboejbnfnaaGreatDoorGen
namespace Go.Proofs.YtclnkboejbnfnaaGreatDoor
open Go.RowKit

section
variable {P : Program} {ops : Array Oper} {Q : Exit → Act → World → Prop}

/-- What operation i waits for. -/
def depsL (ops : Array Oper) (i : Nat) : List Nat := match ops[i]? with
  | some o => (o.after.toList.filter (Region.binds .any)).map (·.on)
  | none => []
/-- .. and what these wait for, from j on downwards. -/
def ancL (ops : Array Oper) : Nat → List Nat → List Nat
  | 0, S => S
  | j + 1, S => ancL ops j (if S.contains j then S ++ depsL ops j else S)

theorem deps_true {o : Oper} {i : Nat} {L : Nat → Bool} (ho : ops[i]? = some o) (h : ∀ d, (o.after.toList.any fun e => Region.binds .any e && e.on == d) = true → L d = true) : ∀ a ∈ depsL ops i, L a = true := by
  intro a ha
  unfold depsL at ha
  rw [ho] at ha
  obtain ⟨e, he, rfl⟩ := List.mem_map.1 ha
  obtain ⟨h1, h2⟩ := List.mem_filter.1 he
  exact h _ (List.any_eq_true.2 ⟨e, h1, by simp [h2]⟩)
theorem closed_deps {L : Nat → Bool} (hc : Closed .any ops L) {i : Nat} (hi : L i = true) : ∀ a ∈ depsL ops i, L a = true := by
  cases ho : ops[i]? with
  | none => intro a ha; unfold depsL at ha; rw [ho] at ha; cases ha
  | some o => exact deps_true ho (hc i o ho hi)
theorem anc_true {L : Nat → Bool} (hc : Closed .any ops L) : ∀ (j : Nat) (S : List Nat), (∀ a ∈ S, L a = true) → ∀ a ∈ ancL ops j S, L a = true
  | 0, _, h, a, ha => h a ha
  | j + 1, S, h, a, ha => by
    unfold ancL at ha
    refine anc_true hc j _ ?_ a ha
    intro b hb
    split at hb
    · rename_i hj
      rcases List.mem_append.1 hb with hb | hb
      · exact h b hb
      · exact closed_deps hc (h j (by simpa using hj)) b hb
    · exact h b hb

theorem closed_upd {L : Nat → Bool} (hc : Closed .any ops L) {i : Nat} {o : Oper} (ho : ops[i]? = some o) (hd : ∀ d, (o.after.toList.any fun e => Region.binds .any e && e.on == d) = true → L d = true) : Closed .any ops (updL L i) := by
  intro j oj hoj hLj d hdd
  unfold updL at hLj ⊢
  by_cases e : d = i
  · rw [if_pos e]
  · rw [if_neg e]
    by_cases ej : j = i
    · subst ej
      rw [ho] at hoj
      injection hoj with hoj
      subst hoj
      exact hd d hdd
    · rw [if_neg ej] at hLj
      exact hc j oj hoj hLj d hdd

theorem allO_at {φ : Nat → Oper → Prop} : ∀ {l : List Oper} {k : Nat}, (∀ i o, l[i]? = some o → φ (k + i) o) → AllO φ l k
  | [], _, _ => trivial
  | x :: r, k, h => ⟨h 0 x rfl, allO_at fun i o ho => by
    have := h (i + 1) o (by simpa using ho)
    rwa [show k + (i + 1) = k + 1 + i by omega] at this⟩
theorem allO_of {φ : Nat → Oper → Prop} {l : List Oper} (h : ∀ i o, l[i]? = some o → φ i o) : AllO φ l 0 := allO_at fun i o ho => by
  rw [Nat.zero_add]; exact h i o ho

theorem wp_region_last {id : Nat} {w : World} {a : Act} (hm : P.follows .mixedOrders = true) (last : Nat) (R D : World → Prop) (Y : Nat → Value → World → Prop) (Z : Value → Prop) (F : (Nat → Value) → Act) (hF : ∀ x, putL (ops.toList.map (·.dst)) x 0 a = F x)
    (hap : apartL (ops.toList.map (·.dst)) = true) (hback : (ops.toList.zipIdx.all fun p => p.1.after.all fun e => !(Region.binds .any e) || decide (e.on < p.2)) = true)
    (hanc : ((List.range last).all fun i => (ancL ops last (depsL ops last)).contains i) = true) (hbeh : ((List.range ops.size).all fun j => decide (j ≤ last) || (ancL ops j (depsL ops j)).contains last) = true) (hlt : last < ops.size) (hR : R w.drew)
    (step : AllO (fun i o => ∀ (x : Nat → Value) (w : World),
      (i < last → R w → (∀ j, (o.after.toList.any fun e => Region.binds .any e && e.on == j) = true → Y j (x j) w) →
        ∀ K : Act → World → Prop, (∀ v w', Y i v w' → R w' → (∀ j u, Y j u w → Y j u w') → K ((F x).put o.dst v) w') →
          if Region.wanted o (yielded ops (F x).tmps) = true then Oper.wp P o (F x) w K Q else K ((F x).put o.dst undef) w) ∧
      (i = last → R w → (∀ j, (o.after.toList.any fun e => Region.binds .any e && e.on == j) = true → Y j (x j) w) →
        ∀ K : Act → World → Prop, (∀ v w', Z v → D w' → K ((F x).put o.dst v) w') →
          if Region.wanted o (yielded ops (F x).tmps) = true then Oper.wp P o (F x) w K Q else K ((F x).put o.dst undef) w) ∧
      (last < i → D w → (∀ j, (o.after.toList.any fun e => Region.binds .any e && e.on == j) = true → last ≤ j → Z (x j)) →
        ∀ K : Act → World → Prop, (∀ v, Z v → K ((F x).put o.dst v) w) →
          if Region.wanted o (yielded ops (F x).tmps) = true then Oper.wp P o (F x) w K Q else K ((F x).put o.dst undef) w)) ops.toList 0)
    (fin : ∀ (x : Nat → Value) (w : World), D w → (∀ j, last ≤ j → j < ops.size → Z (x j)) → Q .normal (F x) w) : (Code.region id ops true).wp P Q a w := by
  refine wp_region_gen hm (fun L x W => Closed .any ops L ∧ (∀ j, L j = true → j < ops.size) ∧ ((L last = false ∧ R W ∧ ∀ j, L j = true → Y j (x j) W) ∨ (L last = true ∧ D W ∧ ∀ j, L j = true → last ≤ j → Z (x j)))) F hF hap hback
    (fun _ => ⟨(fun _ _ _ h => nomatch h), (fun _ h => nomatch h), .inl ⟨rfl, hR, (fun _ h => nomatch h)⟩⟩) ?_ ?_
  · have hat := fun i o h => step.at_ i o h
    have gen : ∀ (i : Nat) (o : Oper), ops.toList[i]? = some o → ∀ (L : Nat → Bool) (x : Nat → Value) (w : World), L i = false → (∀ d, (o.after.toList.any fun e => Region.binds .any e && e.on == d) = true → L d = true) →
        (Closed .any ops L ∧ (∀ j, L j = true → j < ops.size) ∧ ((L last = false ∧ R w ∧ ∀ j, L j = true → Y j (x j) w) ∨ (L last = true ∧ D w ∧ ∀ j, L j = true → last ≤ j → Z (x j)))) →
        ∀ K : Act → World → Prop, (∀ v w', (Closed .any ops (updL L i) ∧ (∀ j, updL L i j = true → j < ops.size) ∧ ((updL L i last = false ∧ R w' ∧ ∀ j, updL L i j = true → Y j (upd x i v j) w') ∨ (updL L i last = true ∧ D w' ∧ ∀ j, updL L i j = true → last ≤ j → Z (upd x i v j)))) → K ((F x).put o.dst v) w') →
          if Region.wanted o (yielded ops (F x).tmps) = true then Oper.wp P o (F x) w K Q else K ((F x).put o.dst undef) w := by
      intro i o ho L x w hLi hd hI K hK
      have ho' : ops[i]? = some o := by simpa using ho
      have hisz : i < ops.size := (Array.getElem?_eq_some_iff.1 ho').1
      obtain ⟨hcl, hsz, hI⟩ := hI
      have hcu := closed_upd hcl ho' hd
      have hsu : ∀ j, updL L i j = true → j < ops.size := by
        intro j hj
        unfold updL at hj
        by_cases e : j = i
        · rw [e]; exact hisz
        · rw [if_neg e] at hj; exact hsz j hj
      obtain ⟨s1, s2, s3⟩ := hat i o ho x w
      rw [Nat.zero_add] at s1 s2 s3
      have hbl : ∀ j, last < j → j < ops.size → last ∈ ancL ops j (depsL ops j) := by
        intro j h1 h2
        have := List.all_eq_true.1 hbeh j (List.mem_range.2 h2)
        rw [decide_eq_false (by omega), Bool.false_or] at this
        simpa using this
      rcases hI with ⟨h0, hRw, hY⟩ | ⟨h1, hDw, hZ⟩
      · rcases Nat.lt_trichotomy i last with hil | rfl | hil
        · refine s1 hil hRw (fun j hj => hY j (hd j hj)) K fun v w' hy hr hk => hK v w' ⟨hcu, hsu, .inl ⟨?_, hr, ?_⟩⟩
          · rw [show updL L i last = L last from if_neg (by omega)]; exact h0
          · intro j hj
            by_cases e : j = i
            · subst e; rw [show upd x j v j = v from if_pos rfl]; exact hy
            · rw [show upd x i v j = x j from if_neg e]
              rw [show updL L i j = L j from if_neg e] at hj
              exact hk j _ (hY j hj)
        · refine s2 rfl hRw (fun j hj => hY j (hd j hj)) K fun v w' hz hdw => hK v w' ⟨hcu, hsu, .inr ⟨if_pos rfl, hdw, ?_⟩⟩
          intro j hj hle
          by_cases e : j = i
          · subst e; rw [show upd x j v j = v from if_pos rfl]; exact hz
          · rw [show updL L i j = L j from if_neg e] at hj
            have := anc_true hcl j _ (closed_deps hcl hj) i (hbl j (by omega) (hsz j hj))
            rw [hLi] at this
            cases this
        · exfalso
          have := anc_true hcl i _ (deps_true ho' hd) last (hbl i hil hisz)
          rw [h0] at this
          cases this
      · rcases Nat.lt_trichotomy i last with hil | rfl | hil
        · exfalso
          have h2 := List.all_eq_true.1 hanc i (List.mem_range.2 hil)
          have := anc_true hcl last _ (closed_deps hcl h1) i (by simpa using h2)
          rw [hLi] at this
          cases this
        · rw [hLi] at h1; cases h1
        · refine s3 hil hDw (fun j hj hle => hZ j (hd j hj) hle) K fun v hz => hK v w ⟨hcu, hsu, .inr ⟨?_, hDw, ?_⟩⟩
          · rw [show updL L i last = L last from if_neg (by omega)]; exact h1
          · intro j hj hle
            by_cases e : j = i
            · subst e; rw [show upd x j v j = v from if_pos rfl]; exact hz
            · rw [show upd x i v j = x j from if_neg e]
              rw [show updL L i j = L j from if_neg e] at hj
              exact hZ j hj hle
    exact allO_of gen
  · intro L x w hall ⟨_, _, hI⟩
    rcases hI with ⟨h0, _⟩ | ⟨_, hDw, hZ⟩
    · rw [hall last hlt] at h0; cases h0
    · exact fin x w hDw (fun j h1 h2 => hZ j (hall j h2) h1)
end
end Go.Proofs.YtclnkboejbnfnaaGreatDoor
