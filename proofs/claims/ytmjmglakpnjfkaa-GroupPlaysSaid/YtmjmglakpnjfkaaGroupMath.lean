/-
  Plain facts on rows by names (groups with their members), and on the document's rows of names and of who is in which group: both tell the same.
  Conditions: none.
-/
import Derived.Test.YtmjmglakpnjfkaaElderMath
import Derived.Test.YtmjmglakpnjfkaaNames
namespace Go.Proofs.Ytmjmglakpnjfkaa
open Go.Maps

/-- Things by names. -/
abbrev RowV (V : Type) := List (List UInt8 × V)
section
variable {V : Type}
def RiseV (L : RowV V) : Prop := L.Pairwise (fun p q => bytesBefore p.1 q.1 = true)
def entV (e : V → DataW Unit) (p : List UInt8 × V) : Lit × DataW Unit := (.string p.1, e p.2)
def datV (e : V → DataW Unit) (L : RowV V) : DataW Unit := .map (L.map (entV e))
def insV (x : List UInt8 × V) : RowV V → RowV V
  | [] => [x]
  | y :: r => if bytesBefore x.1 y.1 then x :: y :: r else y :: insV x r
def delV (L : RowV V) (k : List UInt8) : RowV V := L.filter (fun p => !(p.1 == k))
def putV (L : RowV V) (k : List UInt8) (v : V) : RowV V := insV (k, v) (delV L k)
def hasV (L : RowV V) (k : List UInt8) : Bool := L.any (fun p => p.1 == k)
def getV (L : RowV V) (k : List UInt8) : Option V := (L.find? (fun p => p.1 == k)).map (·.2)
def names10 (L : RowV V) : List (List UInt8) := L.map (·.1)
/-- What k has is changed. -/
def updV (f : V → V) (L : RowV V) (k : List UInt8) : RowV V := L.map fun p => if p.1 = k then (p.1, f p.2) else p

theorem datV_ins (e : V → DataW Unit) (x : List UInt8 × V) : ∀ L : RowV V, (insV x L).map (entV e) = DataW.insert (entV e x) (L.map (entV e))
  | [] => rfl
  | y :: r => by
    simp only [insV, List.map_cons, DataW.insert]
    have h : (entV e x).1.before (entV e y).1 = bytesBefore x.1 y.1 := rfl
    rw [h]
    cases bytesBefore x.1 y.1
    · simp [datV_ins e x r]
    · simp
theorem datV_fil (e : V → DataW Unit) (k : List UInt8) : ∀ L : RowV V, (delV L k).map (entV e) = (L.map (entV e)).filter (fun p => !p.1.sameKey (.string k))
  | [] => rfl
  | y :: r => by
    have ih := datV_fil e k r
    unfold delV at ih ⊢
    have h : (entV e y).1.sameKey (.string k) = (y.1 == k) := rfl
    simp only [List.filter_cons, List.map_cons, h]
    cases (y.1 == k) <;> simp [ih]
theorem datV_put (e : V → DataW Unit) (L : RowV V) (k : List UInt8) (v : V) : (datV e L).put (.string k) (e v) = datV e (putV L k v) := by
  unfold datV putV
  rw [datV_ins, datV_fil]; rfl
theorem datV_del (e : V → DataW Unit) (L : RowV V) (k : List UInt8) : (datV e L).del (.string k) = datV e (delV L k) := by
  unfold datV
  rw [datV_fil]; rfl
theorem datV_has (e : V → DataW Unit) (L : RowV V) (k : List UInt8) : Maps.has (datV e L) (.string k) = hasV L k := by
  unfold datV hasV
  rw [Maps.has_eq, List.any_map]; rfl
theorem datV_at (e : V → DataW Unit) (L : RowV V) (k : List UInt8) (z : DataW Unit) : (datV e L).atKey (.string k) z = match getV L k with | some v => e v | none => z := by
  unfold datV getV
  unfold DataW.atKey
  simp only [List.find?_map]
  have h : ((fun p : Lit × DataW Unit => p.1.sameKey (.string k)) ∘ entV e) = (fun p : List UInt8 × V => p.1 == k) := rfl
  rw [h]
  cases L.find? (fun p => p.1 == k) <;> rfl
theorem datV_size (e : V → DataW Unit) (L : RowV V) : Maps.size (datV e L) = L.length := by simp [datV, Maps.size]
theorem datV_upd {e : V → DataW Unit} {f : V → V} (hf : ∀ v, e (f v) = e v) (L : RowV V) (k : List UInt8) : datV e (updV f L k) = datV e L := by
  unfold datV updV
  rw [List.map_map]
  congr 1
  refine List.map_congr_left fun p _ => ?_
  show entV e (if p.1 = k then (p.1, f p.2) else p) = entV e p
  split
  · unfold entV; rw [hf]
  · rfl

theorem mem_insV {x y : List UInt8 × V} : ∀ {L : RowV V}, y ∈ insV x L ↔ y = x ∨ y ∈ L
  | [] => by simp [insV]
  | z :: r => by
    unfold insV
    split
    · simp
    · simp only [List.mem_cons, mem_insV (L := r)]
      constructor
      · rintro (h | h | h)
        · exact .inr (.inl h)
        · exact .inl h
        · exact .inr (.inr h)
      · rintro (h | h | h)
        · exact .inr (.inl h)
        · exact .inl h
        · exact .inr (.inr h)
theorem mem_delV {L : RowV V} {k : List UInt8} {p : List UInt8 × V} : p ∈ delV L k ↔ p ∈ L ∧ p.1 ≠ k := by
  unfold delV; simp
theorem mem_putV {L : RowV V} {k : List UInt8} {v : V} {p : List UInt8 × V} : p ∈ putV L k v ↔ p = (k, v) ∨ (p ∈ L ∧ p.1 ≠ k) := by
  unfold putV
  rw [mem_insV, mem_delV]
theorem riseV_del {L : RowV V} (h : RiseV L) (k : List UInt8) : RiseV (delV L k) := h.filter _
theorem riseV_ins {x : List UInt8 × V} : ∀ {L : RowV V}, RiseV L → (∀ p ∈ L, p.1 ≠ x.1) → RiseV (insV x L)
  | [], _, _ => by simp [insV, RiseV]
  | y :: r, h, hn => by
    unfold insV
    obtain ⟨h1, h2⟩ := List.pairwise_cons.1 h
    split
    · rename_i hb
      exact List.pairwise_cons.2 ⟨fun p hp => by
        rcases List.mem_cons.1 hp with rfl | hp
        · exact hb
        · exact WideShapes.bytes_trans _ _ _ hb (h1 p hp), h⟩
    · rename_i hb
      have hyx : bytesBefore y.1 x.1 = true := by
        rcases WideAt.bytes_total y.1 x.1 (hn y (by simp)) with h' | h'
        · exact h'
        · exact absurd h' hb
      exact List.pairwise_cons.2 ⟨fun p hp => by
        rcases mem_insV.1 hp with rfl | hp
        · exact hyx
        · exact h1 p hp, riseV_ins h2 (fun p hp => hn p (by simp [hp]))⟩
theorem riseV_put {L : RowV V} (h : RiseV L) (k : List UInt8) (v : V) : RiseV (putV L k v) :=
  riseV_ins (riseV_del h k) (fun _ hp => (mem_delV.1 hp).2)
theorem updV_names (f : V → V) (L : RowV V) (k : List UInt8) : names10 (updV f L k) = names10 L := by
  unfold names10 updV
  rw [List.map_map]
  refine List.map_congr_left fun p _ => ?_
  show (if p.1 = k then (p.1, f p.2) else p).1 = p.1
  split <;> rfl
theorem riseV_names {W : Type} {L : RowV V} {L' : RowV W} (h : RiseV L) (e : names10 L' = names10 L) : RiseV L' := by
  have h1 : (names10 L).Pairwise (fun a b => bytesBefore a b = true) := List.pairwise_map.2 h
  rw [← e] at h1
  exact List.pairwise_map.1 h1
theorem riseV_upd {L : RowV V} (h : RiseV L) (f : V → V) (k : List UInt8) : RiseV (updV f L k) := riseV_names h (updV_names f L k)

theorem hasV_iff {L : RowV V} {k : List UInt8} : hasV L k = true ↔ ∃ p ∈ L, p.1 = k := by simp [hasV]
theorem hasV_names {L : RowV V} {k : List UInt8} : hasV L k = true ↔ k ∈ names10 L := by
  rw [hasV_iff]
  simp [names10]
theorem hasV_false {L : RowV V} {k : List UInt8} : hasV L k = false ↔ k ∉ names10 L := by
  rw [← hasV_names]; simp
theorem delV_of_not {L : RowV V} {k : List UInt8} (h : hasV L k = false) : delV L k = L := by
  unfold delV; rw [List.filter_eq_self]
  intro p hp
  cases e : (p.1 == k)
  · rfl
  · have : hasV L k = true := hasV_iff.2 ⟨p, hp, by simpa using e⟩
    rw [h] at this; cases this
theorem insV_length (x : List UInt8 × V) : ∀ L : RowV V, (insV x L).length = L.length + 1
  | [] => rfl
  | y :: r => by unfold insV; split <;> simp [insV_length x r]
theorem delV_le (L : RowV V) (k : List UInt8) : (delV L k).length ≤ L.length := List.length_filter_le _ _
theorem delV_lt {L : RowV V} {k : List UInt8} (h : hasV L k = true) : (delV L k).length < L.length := by
  unfold delV
  obtain ⟨p, hp, e⟩ := hasV_iff.1 h
  rcases Nat.lt_or_ge (L.filter fun p => !(p.1 == k)).length L.length with h1 | h1
  · exact h1
  · have h2 := List.filter_eq_self.1 (List.length_filter_eq_length_iff.1 (Nat.le_antisymm (List.length_filter_le _ _) h1) |> List.filter_eq_self.2)
    have := h2 p hp
    simp [e] at this
theorem putV_le (L : RowV V) (k : List UInt8) (v : V) : (putV L k v).length ≤ L.length + 1 := by
  unfold putV
  rw [insV_length]
  have := delV_le L k
  omega
theorem putV_has {L : RowV V} {k : List UInt8} (v : V) (h : hasV L k = true) : (putV L k v).length ≤ L.length := by
  unfold putV
  rw [insV_length]
  have := delV_lt h
  omega
theorem getV_some {L : RowV V} (hr : RiseV L) {k : List UInt8} {v : V} : getV L k = some v ↔ (k, v) ∈ L := by
  induction L with
  | nil => simp [getV]
  | cons y r ih =>
    obtain ⟨h1, h2⟩ := List.pairwise_cons.1 hr
    unfold getV at ih ⊢
    rw [List.find?_cons]
    by_cases e : y.1 = k
    · have e' : (y.1 == k) = true := by simpa using e
      simp only [e', Option.map_some, Option.some.injEq, List.mem_cons]
      constructor
      · intro h; left; rw [← h, ← e]
      · rintro (h | h)
        · rw [← h]
        · exact absurd (h1 _ h) (by rw [e, before_irrefl]; exact Bool.noConfusion)
    · have e' : (y.1 == k) = false := by simpa using e
      simp only [e', List.mem_cons]
      rw [ih h2]
      constructor
      · exact .inr
      · rintro (h | h)
        · exact absurd (by rw [← h]) e
        · exact h
theorem getV_none {L : RowV V} {k : List UInt8} : getV L k = none ↔ hasV L k = false := by
  unfold getV hasV
  rw [Option.map_eq_none_iff, List.find?_eq_none, List.any_eq_false]
theorem getV_has {L : RowV V} {k : List UInt8} (h : hasV L k = true) : ∃ v, getV L k = some v := by
  cases hg : getV L k
  · rw [getV_none.1 hg] at h; cases h
  · exact ⟨_, rfl⟩
theorem riseV_one {L : RowV V} (hr : RiseV L) {p q : List UInt8 × V} (hp : p ∈ L) (hq : q ∈ L) (e : p.1 = q.1) : p = q := by
  have h1 := (getV_some hr (k := p.1) (v := p.2)).2 hp
  have h2 := (getV_some hr (k := p.1) (v := q.2)).2 (by rw [e]; exact hq)
  rw [h1] at h2
  injection h2 with h2
  exact Prod.ext e h2
theorem names_put {L : RowV V} {k : List UInt8} {v : V} {x : List UInt8} : x ∈ names10 (putV L k v) ↔ x = k ∨ x ∈ names10 L := by
  unfold names10
  simp only [List.mem_map, mem_putV]
  constructor
  · rintro ⟨p, rfl | ⟨hp, _⟩, rfl⟩
    · exact .inl rfl
    · exact .inr ⟨p, hp, rfl⟩
  · rintro (rfl | ⟨p, hp, rfl⟩)
    · exact ⟨_, .inl rfl, rfl⟩
    · by_cases e : p.1 = k
      · exact ⟨(k, v), .inl rfl, e.symm⟩
      · exact ⟨p, .inr ⟨hp, e⟩, rfl⟩
theorem names_del {L : RowV V} {k x : List UInt8} : x ∈ names10 (delV L k) ↔ x ∈ names10 L ∧ x ≠ k := by
  unfold names10
  simp only [List.mem_map, mem_delV]
  constructor
  · rintro ⟨p, ⟨hp, hn⟩, rfl⟩; exact ⟨⟨p, hp, rfl⟩, hn⟩
  · rintro ⟨⟨p, hp, rfl⟩, hn⟩; exact ⟨p, ⟨hp, hn⟩, rfl⟩
theorem hasV_put {L : RowV V} {k x : List UInt8} {v : V} : hasV (putV L k v) x = true ↔ x = k ∨ hasV L x = true := by
  rw [hasV_names, names_put, hasV_names]
theorem hasV_del {L : RowV V} {k x : List UInt8} : hasV (delV L k) x = true ↔ hasV L x = true ∧ x ≠ k := by
  rw [hasV_names, names_del, hasV_names]
theorem map_insV {W : Type} (f : V → W) (x : List UInt8 × V) : ∀ L : RowV V, (insV x L).map (fun p => (p.1, f p.2)) = insV (x.1, f x.2) (L.map fun p => (p.1, f p.2))
  | [] => rfl
  | y :: r => by
    unfold insV
    simp only [List.map_cons]
    split <;> simp [map_insV f x r]
theorem map_delV {W : Type} (f : V → W) (L : RowV V) (k : List UInt8) : (delV L k).map (fun p => (p.1, f p.2)) = delV (L.map fun p => (p.1, f p.2)) k := by
  unfold delV
  rw [List.filter_map]
  rfl
theorem map_putV {W : Type} (f : V → W) (L : RowV V) (k : List UInt8) (v : V) : (putV L k v).map (fun p => (p.1, f p.2)) = putV (L.map fun p => (p.1, f p.2)) k (f v) := by
  unfold putV
  rw [map_insV, map_delV]
theorem map_names {W : Type} (f : V → W) (L : RowV V) : names10 (L.map fun p => (p.1, f p.2)) = names10 L := by
  unfold names10
  rw [List.map_map]; rfl
theorem map_hasV {W : Type} (f : V → W) (L : RowV V) (k : List UInt8) : hasV (L.map fun p => (p.1, f p.2)) k = hasV L k := by
  unfold hasV
  rw [List.any_map]; rfl
end

/-! ### rows of texts -/
def RiseT (l : List (List UInt8)) : Prop := l.Pairwise (fun a b => bytesBefore a b = true)
theorem RiseV.names {V : Type} {L : RowV V} (h : RiseV L) : RiseT (names10 L) := List.pairwise_map.2 h
theorem riseT_ext : ∀ {a b : List (List UInt8)}, RiseT a → RiseT b → (∀ x, x ∈ a ↔ x ∈ b) → a = b
  | [], [], _, _, _ => rfl
  | [], y :: s, _, _, h => absurd ((h y).2 (by simp)) (by simp)
  | x :: r, [], _, _, h => absurd ((h x).1 (by simp)) (by simp)
  | x :: r, y :: s, ha, hb, h => by
    obtain ⟨a1, a2⟩ := List.pairwise_cons.1 ha
    obtain ⟨b1, b2⟩ := List.pairwise_cons.1 hb
    have e : x = y := by
      rcases List.mem_cons.1 ((h x).1 (by simp)) with e | hx
      · exact e
      · rcases List.mem_cons.1 ((h y).2 (by simp)) with e | hy
        · exact e.symm
        · exact absurd (b1 _ hx) (by rw [before_anti (a1 _ hy)]; exact Bool.noConfusion)
    subst e
    rw [riseT_ext a2 b2 fun z => ?_]
    constructor
    · intro hz
      rcases List.mem_cons.1 ((h z).1 (by simp [hz])) with e | h'
      · subst e; exact absurd (a1 _ hz) (by rw [before_irrefl]; exact Bool.noConfusion)
      · exact h'
    · intro hz
      rcases List.mem_cons.1 ((h z).2 (by simp [hz])) with e | h'
      · subst e; exact absurd (b1 _ hz) (by rw [before_irrefl]; exact Bool.noConfusion)
      · exact h'
/-- Sorting what comes in any order. -/
theorem sort_rise {ls ss : List (List UInt8)} (hr : RiseT ls) (hp : ss.Perm ls) (le : List UInt8 → List UInt8 → Bool) (hle : ∀ x y, le x y = !bytesBefore y x) : ss.mergeSort le = ls := by
  have := sort_names (L := ls.map fun x => (x, [])) (List.pairwise_map.2 (by exact hr)) (ss := ss) (by rw [List.map_map]; exact (List.map_id ls).symm ▸ hp) le hle
  rw [this, List.map_map]
  exact List.map_id ls

/-- A text goes to its place. -/
def insT (s : List UInt8) : List (List UInt8) → List (List UInt8)
  | [] => [s]
  | t :: r => if bytesBefore s t then s :: t :: r else t :: insT s r
theorem insT_mem {s x : List UInt8} : ∀ {l : List (List UInt8)}, x ∈ insT s l ↔ x = s ∨ x ∈ l
  | [] => by simp [insT]
  | t :: r => by
    unfold insT
    split
    · simp
    · simp only [List.mem_cons, insT_mem (l := r)]
      constructor
      · rintro (h | h | h)
        · exact .inr (.inl h)
        · exact .inl h
        · exact .inr (.inr h)
      · rintro (h | h | h)
        · exact .inr (.inl h)
        · exact .inl h
        · exact .inr (.inr h)
theorem insT_length (s : List UInt8) : ∀ l : List (List UInt8), (insT s l).length = l.length + 1
  | [] => rfl
  | t :: r => by unfold insT; split <;> simp [insT_length s r]
theorem insT_rise {s : List UInt8} : ∀ {l : List (List UInt8)}, RiseT l → s ∉ l → RiseT (insT s l)
  | [], _, _ => by simp [insT, RiseT]
  | t :: r, h, hn => by
    unfold insT
    obtain ⟨h1, h2⟩ := List.pairwise_cons.1 h
    split
    · rename_i hb
      exact List.pairwise_cons.2 ⟨fun p hp => by
        rcases List.mem_cons.1 hp with rfl | hp
        · exact hb
        · exact WideShapes.bytes_trans _ _ _ hb (h1 p hp), h⟩
    · rename_i hb
      have hts : bytesBefore t s = true := by
        rcases WideAt.bytes_total t s (fun e => hn (by simp [e])) with h' | h'
        · exact h'
        · exact absurd h' hb
      exact List.pairwise_cons.2 ⟨fun p hp => by
        rcases insT_mem.1 hp with rfl | hp
        · exact hts
        · exact h1 p hp, insT_rise h2 (fun hp => hn (by simp [hp]))⟩
/-- The document's row, sorted, each once. -/
def sortStep (out : List (List UInt8)) (s : List UInt8) : List (List UInt8) := if s ∈ out then out else insT s out
def sortT (l : List (List UInt8)) : List (List UInt8) := l.foldl sortStep []
theorem sortStep_rise {o : List (List UInt8)} (h : RiseT o) (s : List UInt8) : RiseT (sortStep o s) := by
  unfold sortStep
  split
  · exact h
  · rename_i hn; exact insT_rise h hn
theorem sortStep_mem {o : List (List UInt8)} {s x : List UInt8} : x ∈ sortStep o s ↔ x = s ∨ x ∈ o := by
  unfold sortStep
  split
  · rename_i h
    constructor
    · exact .inr
    · rintro (rfl | h')
      · exact h
      · exact h'
  · exact insT_mem
theorem foldl_rise : ∀ (l o : List (List UInt8)), RiseT o → RiseT (l.foldl sortStep o)
  | [], _, h => h
  | s :: r, _, h => foldl_rise r _ (sortStep_rise h s)
theorem foldl_mem {x : List UInt8} : ∀ (l o : List (List UInt8)), x ∈ l.foldl sortStep o ↔ x ∈ l ∨ x ∈ o
  | [], _ => by simp
  | s :: r, o => by
    show x ∈ r.foldl sortStep (sortStep o s) ↔ _
    rw [foldl_mem r, sortStep_mem]
    simp only [List.mem_cons]
    constructor
    · rintro (h | h | h)
      · exact .inl (.inr h)
      · exact .inl (.inl h)
      · exact .inr h
    · rintro ((h | h) | h)
      · exact .inr (.inl h)
      · exact .inl h
      · exact .inr (.inr h)
theorem sortT_rise (l : List (List UInt8)) : RiseT (sortT l) := foldl_rise l [] List.Pairwise.nil
theorem sortT_mem {l : List (List UInt8)} {x : List UInt8} : x ∈ sortT l ↔ x ∈ l := by
  unfold sortT
  rw [foldl_mem]; simp
theorem sortT_eq {l r : List (List UInt8)} (hr : RiseT r) (h : ∀ x, x ∈ r ↔ x ∈ l) : sortT l = r :=
  riseT_ext (sortT_rise l) hr fun x => by rw [sortT_mem, h]
theorem sortT_take {l : List (List UInt8)} {k : Nat} (hk : k < l.length) : sortT (l.take (k + 1)) = sortStep (sortT (l.take k)) l[k] := by
  unfold sortT
  rw [List.take_succ_eq_append_getElem hk, List.foldl_append]
  rfl
theorem sortStep_le (o : List (List UInt8)) (s : List UInt8) : (sortStep o s).length ≤ o.length + 1 := by
  unfold sortStep
  split
  · omega
  · rw [insT_length]; omega
theorem foldl_le : ∀ (l o : List (List UInt8)), (l.foldl sortStep o).length ≤ l.length + o.length
  | [], _ => by simp
  | s :: r, o => by
    have h1 := foldl_le r (sortStep o s)
    have h2 := sortStep_le o s
    simp only [List.foldl_cons, List.length_cons]
    omega
theorem sortT_le (l : List (List UInt8)) : (sortT l).length ≤ l.length := by
  have := foldl_le l []
  simpa [sortT] using this

/-! ### groups, as the code has them -/
abbrev Set10 := RowV Unit
abbrev Grs10 := RowV Set10
def mem10 (S : Grs10) (g : List UInt8) : Set10 := (getV S g).getD []
def in10 (S : Grs10) (g n : List UInt8) : Bool := hasV (mem10 S g) n
def findE10 (S : Grs10) (g : List UInt8) (l : List (List UInt8)) : Int := if name5 g && l.all name5 then (if hasV S g then 0 else 8) else 10
def maE10 (S : Grs10) (g : List UInt8) : Int := if name5 g then (if hasV S g then 9 else if 6 ≤ S.length then 7 else 0) else 10
def maS10 (S : Grs10) (g : List UInt8) : Grs10 := if maE10 S g = 0 then putV S g [] else S
def drE10 (S : Grs10) (g : List UInt8) : Int := findE10 S g []
def drS10 (S : Grs10) (g : List UInt8) : Grs10 := if drE10 S g = 0 then delV S g else S
def joE10 (S : Grs10) (g n : List UInt8) : Int := if findE10 S g [n] = 0 then (if in10 S g n then 9 else 0) else findE10 S g [n]
def joS10 (S : Grs10) (g n : List UInt8) : Grs10 := if joE10 S g n = 0 then updV (fun l => putV l n ()) S g else S
def leE10 (S : Grs10) (g n : List UInt8) : Int := if findE10 S g [n] = 0 then (if in10 S g n then 0 else 12) else findE10 S g [n]
def leS10 (S : Grs10) (g n : List UInt8) : Grs10 := if leE10 S g n = 0 then updV (fun l => delV l n) S g else S
def meL10 (S : Grs10) (g : List UInt8) : List (List UInt8) := if drE10 S g = 0 then names10 (mem10 S g) else []
def ofs10 (S : Grs10) (n : List UInt8) : Grs10 := S.filter fun p => hasV p.2 n
def of10 (S : Grs10) (n : List UInt8) : List (List UInt8) := names10 (ofs10 S n)
def reE10 (S : Grs10) (o n : List UInt8) : Int := if name5 n then (if n ≠ o ∧ of10 S n ≠ [] then 9 else 0) else 10
def ren10 (o n : List UInt8) (l : Set10) : Set10 := if hasV l o then putV (delV l o) n () else l
def reS10 (S : Grs10) (o n : List UInt8) : Grs10 := if reE10 S o n = 0 then S.map (fun p => (p.1, ren10 o n p.2)) else S
def rmS10 (S : Grs10) (n : List UInt8) : Grs10 := S.map fun p => (p.1, delV p.2 n)

/-- What groups are. -/
structure Good10 (S : Grs10) (k : Nat) : Prop where
  rise : RiseV S
  sets : ∀ p ∈ S, RiseV p.2
  few : S.length ≤ 6
  little : ∀ p ∈ S, p.2.length ≤ k
  named : ∀ p ∈ S, name5 p.1 = true
  whos : ∀ p ∈ S, ∀ m ∈ p.2, name5 m.1 = true
theorem Good10.nil : Good10 [] 0 := ⟨List.Pairwise.nil, (fun _ h => nomatch h), by simp, (fun _ h => nomatch h), (fun _ h => nomatch h), (fun _ h => nomatch h)⟩
theorem Good10.mono {S : Grs10} {k k' : Nat} (h : Good10 S k) (hk : k ≤ k') : Good10 S k' := ⟨h.rise, h.sets, h.few, fun p hp => Nat.le_trans (h.little p hp) hk, h.named, h.whos⟩

theorem mem10_at {S : Grs10} (hr : RiseV S) {p : List UInt8 × Set10} (h : p ∈ S) : mem10 S p.1 = p.2 := by
  unfold mem10
  rw [(getV_some hr).2 (show (p.1, p.2) ∈ S from h)]; rfl
theorem mem10_none {S : Grs10} {g : List UInt8} (h : hasV S g = false) : mem10 S g = [] := by
  unfold mem10
  rw [getV_none.2 h]; rfl
theorem in10_iff {S : Grs10} (hr : RiseV S) {g n : List UInt8} : in10 S g n = true ↔ ∃ p ∈ S, p.1 = g ∧ hasV p.2 n = true := by
  unfold in10
  constructor
  · intro h
    cases hg : hasV S g with
    | false => rw [mem10_none hg] at h; cases h
    | true =>
      obtain ⟨p, hp, rfl⟩ := hasV_iff.1 hg
      rw [mem10_at hr hp] at h
      exact ⟨p, hp, rfl, h⟩
  · rintro ⟨p, hp, rfl, h⟩
    rw [mem10_at hr hp]; exact h
theorem of10_mem {S : Grs10} (hr : RiseV S) {g n : List UInt8} : g ∈ of10 S n ↔ in10 S g n = true := by
  rw [in10_iff hr]
  unfold of10 ofs10 names10
  simp only [List.mem_map, List.mem_filter]
  constructor
  · rintro ⟨p, ⟨hp, h⟩, rfl⟩; exact ⟨p, hp, rfl, h⟩
  · rintro ⟨p, hp, rfl, h⟩; exact ⟨p, ⟨hp, h⟩, rfl⟩
theorem of10_rise {S : Grs10} (hr : RiseV S) (n : List UInt8) : RiseT (of10 S n) := RiseV.names (hr.filter _)
theorem of10_sub {S : Grs10} {g n : List UInt8} (h : g ∈ of10 S n) : g ∈ names10 S := by
  unfold of10 ofs10 names10 at h
  obtain ⟨p, hp, rfl⟩ := List.mem_map.1 h
  exact List.mem_map.2 ⟨p, (List.mem_filter.1 hp).1, rfl⟩
theorem of10_le (S : Grs10) (n : List UInt8) : (of10 S n).length ≤ S.length := by
  unfold of10 ofs10 names10
  rw [List.length_map]
  exact List.length_filter_le _ _
theorem names10_length {V : Type} (L : RowV V) : (names10 L).length = L.length := List.length_map _

theorem good_make {S : Grs10} {k : Nat} (h : Good10 S k) (g : List UInt8) : Good10 (maS10 S g) k := by
  unfold maS10
  split
  case isFalse => exact h
  case isTrue he =>
    unfold maE10 at he
    split at he
    case isFalse => cases he
    case isTrue hn =>
    split at he
    · cases he
    · rename_i hh
      have hf : hasV S g = false := by simpa using hh
      split at he
      · cases he
      · rename_i h6
        refine ⟨riseV_put h.rise g [], fun p hp => ?_, ?_, fun p hp => ?_, fun p hp => ?_, fun p hp => ?_⟩
        · rcases mem_putV.1 hp with rfl | ⟨hp, _⟩
          · exact List.Pairwise.nil
          · exact h.sets p hp
        · have := putV_le S g []; omega
        · rcases mem_putV.1 hp with rfl | ⟨hp, _⟩
          · simp
          · exact h.little p hp
        · rcases mem_putV.1 hp with rfl | ⟨hp, _⟩
          · exact hn
          · exact h.named p hp
        · rcases mem_putV.1 hp with rfl | ⟨hp, _⟩
          · intro m hm; cases hm
          · exact h.whos p hp
theorem good_drop {S : Grs10} {k : Nat} (h : Good10 S k) (g : List UInt8) : Good10 (drS10 S g) k := by
  unfold drS10
  split
  · exact ⟨riseV_del h.rise g, fun p hp => h.sets p (mem_delV.1 hp).1, Nat.le_trans (delV_le S g) h.few, fun p hp => h.little p (mem_delV.1 hp).1, fun p hp => h.named p (mem_delV.1 hp).1, fun p hp => h.whos p (mem_delV.1 hp).1⟩
  · exact h
theorem good_upd {S : Grs10} {k k' : Nat} (h : Good10 S k) (f : Set10 → Set10) (g : List UInt8) (hk : k ≤ k') (hf : ∀ l : Set10, RiseV l → l.length ≤ k → RiseV (f l) ∧ (f l).length ≤ k') (hw : ∀ l : Set10, (∀ m ∈ l, name5 m.1 = true) → ∀ m ∈ f l, name5 m.1 = true) : Good10 (updV f S g) k' := by
  refine ⟨riseV_upd h.rise f g, fun p hp => ?_, by rw [updV, List.length_map]; exact h.few, fun p hp => ?_, fun p hp => ?_, fun p hp => ?_⟩
  all_goals
    obtain ⟨q, hq, rfl⟩ := List.mem_map.1 hp
    have := hf q.2 (h.sets q hq) (h.little q hq)
    by_cases e : q.1 = g
    · simp only [e, if_true]
      first | exact this.1 | exact this.2 | (rw [← e]; exact h.named q hq) | exact hw q.2 (h.whos q hq)
    · simp only [e, if_false]
      first | exact h.sets q hq | exact Nat.le_trans (h.little q hq) hk | exact h.named q hq | exact h.whos q hq
theorem good_join {S : Grs10} {k : Nat} (h : Good10 S k) (g n : List UInt8) : Good10 (joS10 S g n) (k + 1) := by
  unfold joS10
  split
  · rename_i he
    have hn : name5 n = true := by
      unfold joE10 at he
      split at he
      · rename_i hz
        unfold findE10 at hz
        split at hz
        · rename_i hb
          simp only [List.all_cons, List.all_nil, Bool.and_true, Bool.and_eq_true] at hb
          exact hb.2
        · cases hz
      · rename_i hz; exact absurd he hz
    exact good_upd h _ g (by omega) (fun l hl hk => ⟨riseV_put hl n (), by have := putV_le l n (); omega⟩) fun l hl m hm => by
      rcases mem_putV.1 hm with rfl | ⟨hm, _⟩
      · exact hn
      · exact hl m hm
  · exact h.mono (by omega)
theorem good_leave {S : Grs10} {k : Nat} (h : Good10 S k) (g n : List UInt8) : Good10 (leS10 S g n) k := by
  unfold leS10
  split
  · exact good_upd h _ g (by omega) (fun l hl hk => ⟨riseV_del hl n, Nat.le_trans (delV_le l n) hk⟩) fun l hl m hm => hl m (mem_delV.1 hm).1
  · exact h
theorem ren10_rise {o n : List UInt8} {l : Set10} (h : RiseV l) : RiseV (ren10 o n l) := by
  unfold ren10
  split
  · exact riseV_put (riseV_del h o) n ()
  · exact h
theorem ren10_le (o n : List UInt8) (l : Set10) : (ren10 o n l).length ≤ l.length := by
  unfold ren10
  split
  · rename_i h
    have h1 := delV_lt h
    have h2 := putV_le (delV l o) n ()
    omega
  · exact Nat.le_refl _
theorem good_map {S : Grs10} {k : Nat} (h : Good10 S k) (f : Set10 → Set10) (hf : ∀ l : Set10, RiseV l → RiseV (f l) ∧ (f l).length ≤ l.length) (hw : ∀ l : Set10, (∀ m ∈ l, name5 m.1 = true) → ∀ m ∈ f l, name5 m.1 = true) : Good10 (S.map fun p => (p.1, f p.2)) k := by
  refine ⟨riseV_names h.rise (map_names f S), fun p hp => ?_, by rw [List.length_map]; exact h.few, fun p hp => ?_, fun p hp => ?_, fun p hp => ?_⟩
  all_goals
    obtain ⟨q, hq, rfl⟩ := List.mem_map.1 hp
    have := hf q.2 (h.sets q hq)
    first | exact this.1 | exact Nat.le_trans this.2 (h.little q hq) | exact h.named q hq | exact hw q.2 (h.whos q hq)
theorem good_rename {S : Grs10} {k : Nat} (h : Good10 S k) (o n : List UInt8) : Good10 (reS10 S o n) k := by
  unfold reS10
  split
  · rename_i he
    have hn : name5 n = true := by
      unfold reE10 at he
      split at he
      · assumption
      · cases he
    exact good_map h _ (fun l hl => ⟨ren10_rise hl, ren10_le o n l⟩) fun l hl m hm => by
      unfold ren10 at hm
      split at hm
      · rcases mem_putV.1 hm with rfl | ⟨hm, _⟩
        · exact hn
        · exact hl m (mem_delV.1 hm).1
      · exact hl m hm
  · exact h
theorem good_remove {S : Grs10} {k : Nat} (h : Good10 S k) (n : List UInt8) : Good10 (rmS10 S n) k := good_map h _ (fun l hl => ⟨riseV_del hl n, delV_le l n⟩) fun _ hl m hm => hl m (mem_delV.1 hm).1
end Go.Proofs.Ytmjmglakpnjfkaa
