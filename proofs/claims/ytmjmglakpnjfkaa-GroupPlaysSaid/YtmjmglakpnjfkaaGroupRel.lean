/-
  Plain facts: the document's rows of names and of who is in which group tell the same as the groups of the code, behind each deed; what is asked of them is the same; what the laws ask.
  Conditions: none.
-/
import Derived.Test.YtmjmglakpnjfkaaGroupMath
namespace Go.Proofs.Ytmjmglakpnjfkaa
open Go.Maps

abbrev Who10 := List UInt8 × List UInt8
def hasT (l : List (List UInt8)) (s : List UInt8) : Bool := l.any fun t => t == s
theorem hasT_iff {l : List (List UInt8)} {s : List UInt8} : hasT l s = true ↔ s ∈ l := by simp [hasT]
theorem hasT_false {l : List (List UInt8)} {s : List UInt8} : hasT l s = false ↔ s ∉ l := by rw [← hasT_iff]; simp
def inM (M : List Who10) (g n : List UInt8) : Bool := M.any fun m => m.1 == g && m.2 == n
theorem inM_iff {M : List Who10} {g n : List UInt8} : inM M g n = true ↔ (g, n) ∈ M := by
  simp only [inM, List.any_eq_true, Bool.and_eq_true, beq_iff_eq]
  constructor
  · rintro ⟨m, hm, rfl, rfl⟩; exact hm
  · intro h; exact ⟨_, h, rfl, rfl⟩
/-- The document's deeds. -/
def dropN (N : List (List UInt8)) (g : List UInt8) : List (List UInt8) := N.filter fun s => !(s == g)
def dropM (M : List Who10) (g : List UInt8) : List Who10 := M.filter fun m => !(m.1 == g)
def outM (M : List Who10) (g n : List UInt8) : List Who10 := M.filter fun m => !(m.1 == g) || !(m.2 == n)
def whoM (M : List Who10) (g : List UInt8) : List (List UInt8) := (M.filter fun m => m.1 == g).map (·.2)
def ofM (M : List Who10) (n : List UInt8) : List (List UInt8) := (M.filter fun m => m.2 == n).map (·.1)
def renM (M : List Who10) (o n : List UInt8) : List Who10 := M.map fun m => if m.2 == o then (m.1, n) else m
def rmM (M : List Who10) (n : List UInt8) : List Who10 := (sortT (ofM M n)).foldl (fun m g => outM m g n) M

theorem outM_mem {M : List Who10} {g n : List UInt8} {m : Who10} : m ∈ outM M g n ↔ m ∈ M ∧ (m.1 = g → m.2 ≠ n) := by
  simp only [outM, List.mem_filter, Bool.or_eq_true, Bool.not_eq_true', beq_eq_false_iff_ne]
  constructor
  · rintro ⟨h, h' | h'⟩
    · exact ⟨h, fun e => absurd e h'⟩
    · exact ⟨h, fun _ => h'⟩
  · rintro ⟨h, h'⟩
    refine ⟨h, ?_⟩
    by_cases e : m.1 = g
    · exact .inr (h' e)
    · exact .inl e
theorem outM_fold {n : List UInt8} {m : Who10} : ∀ (gs : List (List UInt8)) (M : List Who10), m ∈ gs.foldl (fun m g => outM m g n) M ↔ m ∈ M ∧ (m.1 ∈ gs → m.2 ≠ n)
  | [], M => by simp
  | g :: r, M => by
    show m ∈ r.foldl (fun m g => outM m g n) (outM M g n) ↔ _
    rw [outM_fold r, outM_mem]
    simp only [List.mem_cons]
    constructor
    · rintro ⟨⟨h, h1⟩, h2⟩
      exact ⟨h, fun e => e.elim h1 h2⟩
    · rintro ⟨h, h1⟩
      exact ⟨⟨h, fun e => h1 (.inl e)⟩, fun e => h1 (.inr e)⟩
theorem ofM_mem {M : List Who10} {g n : List UInt8} : g ∈ ofM M n ↔ (g, n) ∈ M := by
  simp only [ofM, List.mem_map, List.mem_filter, beq_iff_eq]
  constructor
  · rintro ⟨m, ⟨hm, rfl⟩, rfl⟩; exact hm
  · intro h; exact ⟨_, ⟨h, rfl⟩, rfl⟩
theorem whoM_mem {M : List Who10} {g n : List UInt8} : n ∈ whoM M g ↔ (g, n) ∈ M := by
  simp only [whoM, List.mem_map, List.mem_filter, beq_iff_eq]
  constructor
  · rintro ⟨m, ⟨hm, rfl⟩, rfl⟩; exact hm
  · intro h; exact ⟨_, ⟨h, rfl⟩, rfl⟩
theorem rmM_mem {M : List Who10} {n : List UInt8} {m : Who10} : m ∈ rmM M n ↔ m ∈ M ∧ m.2 ≠ n := by
  unfold rmM
  rw [outM_fold, sortT_mem, ofM_mem]
  constructor
  · rintro ⟨h, h1⟩
    refine ⟨h, fun e => ?_⟩
    exact h1 (by rw [← e]; exact h) e
  · rintro ⟨h, h1⟩; exact ⟨h, fun _ => h1⟩
theorem outM_le (M : List Who10) (g n : List UInt8) : (outM M g n).length ≤ M.length := List.length_filter_le _ _
theorem rmM_le (M : List Who10) (n : List UInt8) : (rmM M n).length ≤ M.length := by
  unfold rmM
  generalize sortT (ofM M n) = gs
  induction gs generalizing M with
  | nil => exact Nat.le_refl _
  | cons g r ih => exact Nat.le_trans (ih (outM M g n)) (outM_le M g n)
theorem ofM_le (M : List Who10) (n : List UInt8) : (ofM M n).length ≤ M.length := by
  unfold ofM; rw [List.length_map]; exact List.length_filter_le _ _
theorem whoM_le (M : List Who10) (g : List UInt8) : (whoM M g).length ≤ M.length := by
  unfold whoM; rw [List.length_map]; exact List.length_filter_le _ _

/-- The document's rows tell what the groups are. -/
structure Rel10 (S : Grs10) (N : List (List UInt8)) (M : List Who10) : Prop where
  names : N = names10 S
  mem : ∀ g n, (g, n) ∈ M ↔ in10 S g n = true

section
variable {S : Grs10} {N : List (List UInt8)} {M : List Who10} {k : Nat}
theorem Rel10.nil : Rel10 [] [] [] := ⟨rfl, fun _ _ => by simp [in10, mem10, getV, hasV]⟩
theorem Rel10.has (h : Rel10 S N M) (g : List UInt8) : hasT N g = hasV S g := by
  rw [Bool.eq_iff_iff, hasT_iff, hasV_names, h.names]
theorem Rel10.isin (h : Rel10 S N M) (g n : List UInt8) : inM M g n = in10 S g n := by
  rw [Bool.eq_iff_iff, inM_iff, h.mem]
theorem Rel10.len (h : Rel10 S N M) : N.length = S.length := by rw [h.names, names10_length]
theorem Rel10.of_ (h : Rel10 S N M) (hr : RiseV S) (n : List UInt8) : sortT (ofM M n) = of10 S n :=
  sortT_eq (of10_rise hr n) fun g => by rw [of10_mem hr, ofM_mem, h.mem]
theorem mem10_rise (hg : Good10 S k) (g : List UInt8) : RiseV (mem10 S g) := by
  cases hh : hasV S g with
  | false => rw [mem10_none hh]; exact List.Pairwise.nil
  | true =>
    obtain ⟨p, hp, rfl⟩ := hasV_iff.1 hh
    rw [mem10_at hg.rise hp]; exact hg.sets p hp
theorem mem10_le (hg : Good10 S k) (g : List UInt8) : (mem10 S g).length ≤ k := by
  cases hh : hasV S g with
  | false => rw [mem10_none hh]; exact Nat.zero_le _
  | true =>
    obtain ⟨p, hp, rfl⟩ := hasV_iff.1 hh
    rw [mem10_at hg.rise hp]; exact hg.little p hp
theorem mem10_named (hg : Good10 S k) (g : List UInt8) : ∀ n ∈ names10 (mem10 S g), name5 n = true := by
  intro n hn
  obtain ⟨m, hm, rfl⟩ := List.mem_map.1 hn
  cases hh : hasV S g with
  | false => rw [mem10_none hh] at hm; cases hm
  | true =>
    obtain ⟨p, hp, rfl⟩ := hasV_iff.1 hh
    rw [mem10_at hg.rise hp] at hm; exact hg.whos p hp m hm
theorem Rel10.who (h : Rel10 S N M) (hg : Good10 S k) (g : List UInt8) : sortT (whoM M g) = names10 (mem10 S g) :=
  sortT_eq (mem10_rise hg g).names fun n => by rw [← hasV_names, whoM_mem, h.mem]; rfl

theorem in10_put (hr : RiseV S) {g : List UInt8} (hh : hasV S g = false) (g' n : List UInt8) : in10 (putV S g []) g' n = in10 S g' n := by
  rw [Bool.eq_iff_iff, in10_iff (riseV_put hr g []), in10_iff hr]
  constructor
  · rintro ⟨p, hp, rfl, h⟩
    rcases mem_putV.1 hp with rfl | ⟨hp, _⟩
    · cases h
    · exact ⟨p, hp, rfl, h⟩
  · rintro ⟨p, hp, rfl, h⟩
    exact ⟨p, mem_putV.2 (.inr ⟨hp, fun e => by rw [hasV_false] at hh; exact hh (by rw [← e]; exact List.mem_map.2 ⟨p, hp, rfl⟩)⟩), rfl, h⟩
theorem in10_del (hr : RiseV S) (g g' n : List UInt8) : in10 (delV S g) g' n = true ↔ in10 S g' n = true ∧ g' ≠ g := by
  rw [in10_iff (riseV_del hr g), in10_iff hr]
  constructor
  · rintro ⟨p, hp, rfl, h⟩
    obtain ⟨h1, h2⟩ := mem_delV.1 hp
    exact ⟨⟨p, h1, rfl, h⟩, h2⟩
  · rintro ⟨⟨p, hp, rfl, h⟩, h2⟩
    exact ⟨p, mem_delV.2 ⟨hp, h2⟩, rfl, h⟩
theorem in10_upd (hr : RiseV S) (f : Set10 → Set10) (g g' n : List UInt8) : in10 (updV f S g) g' n = true ↔ ∃ p ∈ S, p.1 = g' ∧ hasV (if g' = g then f p.2 else p.2) n = true := by
  rw [in10_iff (riseV_upd hr f g)]
  constructor
  · rintro ⟨q, hq, rfl, h⟩
    obtain ⟨p, hp, rfl⟩ := List.mem_map.1 hq
    refine ⟨p, hp, ?_⟩
    by_cases e : p.1 = g
    · simp only [e, if_true] at h ⊢; exact ⟨trivial, h⟩
    · simp only [e, if_false] at h ⊢; exact ⟨trivial, h⟩
  · rintro ⟨p, hp, rfl, h⟩
    refine ⟨_, List.mem_map.2 ⟨p, hp, rfl⟩, ?_⟩
    by_cases e : p.1 = g
    · simp only [e, if_true] at h ⊢; exact ⟨trivial, h⟩
    · simp only [e, if_false] at h ⊢; exact ⟨trivial, h⟩
theorem in10_map (hr : RiseV S) (f : Set10 → Set10) (g n : List UInt8) : in10 (S.map fun p => (p.1, f p.2)) g n = true ↔ ∃ p ∈ S, p.1 = g ∧ hasV (f p.2) n = true := by
  rw [in10_iff (riseV_names hr (map_names f S))]
  constructor
  · rintro ⟨q, hq, rfl, h⟩
    obtain ⟨p, hp, rfl⟩ := List.mem_map.1 hq
    exact ⟨p, hp, rfl, h⟩
  · rintro ⟨p, hp, rfl, h⟩
    exact ⟨_, List.mem_map.2 ⟨p, hp, rfl⟩, rfl, h⟩

theorem maE10_zero {g : List UInt8} (h : maE10 S g = 0) : name5 g = true ∧ hasV S g = false ∧ S.length < 6 := by
  unfold maE10 at h
  split at h
  case isFalse => cases h
  case isTrue hn =>
  split at h
  · cases h
  · rename_i hh
    split at h
    · cases h
    · exact ⟨hn, by simpa using hh, by omega⟩
theorem findE10_zero {g : List UInt8} {l : List (List UInt8)} (h : findE10 S g l = 0) : name5 g = true ∧ l.all name5 = true ∧ hasV S g = true := by
  unfold findE10 at h
  split at h
  case isFalse => cases h
  case isTrue hn =>
  split at h
  · rename_i hh
    simp only [Bool.and_eq_true] at hn
    exact ⟨hn.1, hn.2, hh⟩
  · cases h
theorem joE10_zero {g n : List UInt8} (h : joE10 S g n = 0) : findE10 S g [n] = 0 ∧ in10 S g n = false := by
  unfold joE10 at h
  split at h
  case isFalse hf => exact absurd h hf
  case isTrue hf =>
  split at h
  · cases h
  · rename_i hi; exact ⟨hf, by simpa using hi⟩
theorem leE10_zero {g n : List UInt8} (h : leE10 S g n = 0) : findE10 S g [n] = 0 ∧ in10 S g n = true := by
  unfold leE10 at h
  split at h
  case isFalse hf => exact absurd h hf
  case isTrue hf =>
  split at h
  · rename_i hi; exact ⟨hf, hi⟩
  · cases h
theorem reE10_zero {o n : List UInt8} (h : reE10 S o n = 0) : name5 n = true ∧ (n ≠ o → of10 S n = []) := by
  unfold reE10 at h
  split at h
  case isFalse => cases h
  case isTrue hn =>
  split at h
  · cases h
  · rename_i hi
    refine ⟨hn, fun e => ?_⟩
    by_cases e2 : of10 S n = []
    · exact e2
    · exact absurd ⟨e, e2⟩ hi
theorem find_name {g n : List UInt8} (h : findE10 S g [n] = 0) : name5 n = true := by
  have := (findE10_zero h).2.1
  simpa using this

theorem Rel10.make (h : Rel10 S N M) (hg : Good10 S k) {g : List UInt8} (he : maE10 S g = 0) : Rel10 (maS10 S g) (sortT (N ++ [g])) M := by
  obtain ⟨hn, hh, h6⟩ := maE10_zero he
  unfold maS10
  rw [if_pos he]
  refine ⟨sortT_eq (riseV_put hg.rise g []).names fun x => ?_, fun g' n => by rw [h.mem, in10_put hg.rise hh]⟩
  rw [names_put, h.names]
  simp [or_comm]
theorem Rel10.drop (h : Rel10 S N M) (hg : Good10 S k) {g : List UInt8} (he : drE10 S g = 0) : Rel10 (drS10 S g) (dropN N g) (dropM M g) := by
  unfold drS10
  rw [if_pos he]
  refine ⟨riseT_ext ?_ (riseV_del hg.rise g).names fun x => ?_, fun g' n => ?_⟩
  · rw [h.names]; exact hg.rise.names.filter _
  · rw [names_del, h.names]; simp [dropN]
  · rw [in10_del hg.rise, ← h.mem]
    simp [dropM]
theorem Rel10.join (h : Rel10 S N M) (hg : Good10 S k) {g n : List UInt8} (he : joE10 S g n = 0) : Rel10 (joS10 S g n) N (M ++ [(g, n)]) := by
  obtain ⟨hf, hi⟩ := joE10_zero he
  obtain ⟨_, _, hh⟩ := findE10_zero hf
  unfold joS10
  rw [if_pos he]
  refine ⟨by rw [h.names, updV_names], fun g' n' => ?_⟩
  rw [in10_upd hg.rise, List.mem_append, h.mem, in10_iff hg.rise, List.mem_singleton]
  constructor
  · rintro (⟨p, hp, rfl, h'⟩ | e)
    · refine ⟨p, hp, rfl, ?_⟩
      split
      · exact hasV_put.2 (.inr h')
      · exact h'
    · injection e with e1 e2
      subst e1 e2
      obtain ⟨p, hp, e⟩ := hasV_iff.1 hh
      exact ⟨p, hp, e, by simp [hasV_put]⟩
  · rintro ⟨p, hp, rfl, h'⟩
    by_cases e : p.1 = g
    · rw [if_pos e] at h'
      rcases hasV_put.1 h' with h' | h'
      · right; rw [e, h']
      · exact .inl ⟨p, hp, rfl, h'⟩
    · rw [if_neg e] at h'
      exact .inl ⟨p, hp, rfl, h'⟩
theorem Rel10.leave (h : Rel10 S N M) (hg : Good10 S k) {g n : List UInt8} (he : leE10 S g n = 0) : Rel10 (leS10 S g n) N (outM M g n) := by
  unfold leS10
  rw [if_pos he]
  refine ⟨by rw [h.names, updV_names], fun g' n' => ?_⟩
  rw [in10_upd hg.rise, outM_mem, h.mem, in10_iff hg.rise]
  constructor
  · rintro ⟨⟨p, hp, rfl, h'⟩, h2⟩
    refine ⟨p, hp, rfl, ?_⟩
    split
    · rename_i e; exact hasV_del.2 ⟨h', h2 e⟩
    · exact h'
  · rintro ⟨p, hp, rfl, h'⟩
    by_cases e : p.1 = g
    · rw [if_pos e] at h'
      have := hasV_del.1 h'
      exact ⟨⟨p, hp, rfl, this.1⟩, fun _ => this.2⟩
    · rw [if_neg e] at h'
      exact ⟨⟨p, hp, rfl, h'⟩, fun e' => absurd e' e⟩
theorem Rel10.remove (h : Rel10 S N M) (hg : Good10 S k) (n : List UInt8) : Rel10 (rmS10 S n) N (rmM M n) := by
  refine ⟨by rw [h.names]; exact (map_names _ S).symm, fun g' n' => ?_⟩
  unfold rmS10
  rw [in10_map hg.rise (fun l => delV l n), rmM_mem, h.mem, in10_iff hg.rise]
  constructor
  · rintro ⟨⟨p, hp, rfl, h'⟩, h2⟩; exact ⟨p, hp, rfl, hasV_del.2 ⟨h', h2⟩⟩
  · rintro ⟨p, hp, rfl, h'⟩
    have := hasV_del.1 h'
    exact ⟨⟨p, hp, rfl, this.1⟩, this.2⟩
theorem ren10_has {o n x : List UInt8} {l : Set10} : hasV (ren10 o n l) x = true ↔ (hasV l o = true ∧ (x = n ∨ (hasV l x = true ∧ x ≠ o))) ∨ (hasV l o = false ∧ hasV l x = true) := by
  unfold ren10
  cases ho : hasV l o
  · simp
  · simp [hasV_put, hasV_del]
theorem of10_nil (hr : RiseV S) {n : List UInt8} (h : of10 S n = []) {p : List UInt8 × Set10} (hp : p ∈ S) : hasV p.2 n = false := by
  cases hh : hasV p.2 n
  · rfl
  · have := (of10_mem hr (g := p.1)).2 ((in10_iff hr).2 ⟨p, hp, rfl, hh⟩)
    rw [h] at this; cases this
theorem Rel10.rename (h : Rel10 S N M) (hg : Good10 S k) {o n : List UInt8} (he : reE10 S o n = 0) : Rel10 (reS10 S o n) N (renM M o n) := by
  obtain ⟨hn, hne⟩ := reE10_zero he
  unfold reS10
  rw [if_pos he]
  refine ⟨by rw [h.names]; exact (map_names _ S).symm, fun g' n' => ?_⟩
  rw [in10_map hg.rise (ren10 o n)]
  simp only [renM, List.mem_map]
  constructor
  · rintro ⟨m, hm, e⟩
    obtain ⟨a, b⟩ := m
    obtain ⟨p, hp, e1, h'⟩ := (in10_iff hg.rise).1 ((h.mem a b).1 hm)
    by_cases eb : b = o
    · subst eb
      simp only [beq_self_eq_true, if_true] at e
      injection e with e2 e3
      subst e2 e3
      exact ⟨p, hp, e1, ren10_has.2 (.inl ⟨h', .inl rfl⟩)⟩
    · have : (b == o) = false := by simpa using eb
      simp only [this, Bool.false_eq_true, if_false] at e
      injection e with e2 e3
      subst e2 e3
      refine ⟨p, hp, e1, ren10_has.2 ?_⟩
      cases ho : hasV p.2 o
      · exact .inr ⟨rfl, h'⟩
      · exact .inl ⟨rfl, .inr ⟨h', eb⟩⟩
  · rintro ⟨p, hp, rfl, h'⟩
    rcases ren10_has.1 h' with ⟨ho, e | ⟨hx, hxo⟩⟩ | ⟨ho, hx⟩
    · subst e
      exact ⟨(p.1, o), (h.mem _ _).2 ((in10_iff hg.rise).2 ⟨p, hp, rfl, ho⟩), by simp⟩
    · exact ⟨(p.1, n'), (h.mem _ _).2 ((in10_iff hg.rise).2 ⟨p, hp, rfl, hx⟩), by simp [hxo]⟩
    · refine ⟨(p.1, n'), (h.mem _ _).2 ((in10_iff hg.rise).2 ⟨p, hp, rfl, hx⟩), ?_⟩
      have : n' ≠ o := fun e => by rw [e, ho] at hx; cases hx
      simp [this]

/-! ### what the laws ask -/
theorem drE10_named (hg : Good10 S k) {x : List UInt8} (hx : x ∈ names10 S) : drE10 S x = 0 := by
  obtain ⟨p, hp, rfl⟩ := List.mem_map.1 hx
  unfold drE10 findE10
  rw [hg.named p hp, hasV_names.2 hx]
  simp
theorem both10 (hr : RiseV S) (g n : List UInt8) : hasT (names10 (mem10 S g)) n = hasT (of10 S n) g := by
  rw [Bool.eq_iff_iff, hasT_iff, hasT_iff, of10_mem hr, ← hasV_names]; rfl
theorem ren10_self (hr : RiseV S) {n : List UInt8} : of10 (S.map fun p => (p.1, ren10 n n p.2)) n = of10 S n := by
  refine riseT_ext (of10_rise (riseV_names hr (map_names _ S)) n) (of10_rise hr n) fun g => ?_
  rw [of10_mem (riseV_names hr (map_names _ S)), of10_mem hr, in10_map hr (ren10 n n), in10_iff hr]
  refine exists_congr fun p => and_congr_right fun _ => and_congr_right fun _ => ?_
  rw [ren10_has]
  cases hasV p.2 n <;> simp
/-- Who is renamed is where it was. -/
theorem renamed10 (hg : Good10 S k) {o n : List UInt8} (he : reE10 S o n = 0) : of10 (reS10 S o n) n = of10 S o := by
  obtain ⟨_, hne⟩ := reE10_zero he
  unfold reS10
  rw [if_pos he]
  have hr := hg.rise
  by_cases e : n = o
  · subst e; exact ren10_self hr
  · have h0 := hne e
    refine riseT_ext (of10_rise (riseV_names hr (map_names _ S)) n) (of10_rise hr o) fun g => ?_
    rw [of10_mem (riseV_names hr (map_names _ S)), of10_mem hr, in10_map hr (ren10 o n), in10_iff hr]
    refine exists_congr fun p => and_congr_right fun hp => and_congr_right fun _ => ?_
    rw [ren10_has, of10_nil hr h0 hp]
    cases hasV p.2 o <;> simp
theorem renamed10_old (hg : Good10 S k) {o n : List UInt8} (he : reE10 S o n = 0) (hn : o ≠ n) : of10 (reS10 S o n) o = [] := by
  unfold reS10
  rw [if_pos he]
  have hr := hg.rise
  refine List.eq_nil_iff_forall_not_mem.2 fun g hm => ?_
  rw [of10_mem (riseV_names hr (map_names _ S)), in10_map hr (ren10 o n)] at hm
  obtain ⟨p, hp, _, h⟩ := hm
  rcases ren10_has.1 h with ⟨_, e | ⟨_, e⟩⟩ | ⟨ho, h'⟩
  · exact hn e
  · exact e rfl
  · rw [ho] at h'; cases h'
theorem removed10 (hr : RiseV S) (n : List UInt8) : of10 (rmS10 S n) n = [] := by
  refine List.eq_nil_iff_forall_not_mem.2 fun g hm => ?_
  unfold rmS10 at hm
  rw [of10_mem (riseV_names hr (map_names (fun l : Set10 => delV l n) S)), in10_map hr (fun l => delV l n)] at hm
  obtain ⟨p, hp, _, h⟩ := hm
  exact (hasV_del.1 h).2 rfl
/-- A group that is dropped, and made again: no one is in it; all else is as it was. -/
theorem again10 (hg : Good10 S k) {x : List UInt8} (hx : x ∈ names10 S) : maE10 (drS10 S x) x = 0 ∧ names10 (maS10 (drS10 S x) x) = names10 S ∧ ∀ g n, in10 (maS10 (drS10 S x) x) g n = true ↔ in10 S g n = true ∧ g ≠ x := by
  have hd := drE10_named hg hx
  have hname : name5 x = true := by obtain ⟨p, hp, rfl⟩ := List.mem_map.1 hx; exact hg.named p hp
  have e1 : drS10 S x = delV S x := by unfold drS10; rw [if_pos hd]
  have hno : hasV (delV S x) x = false := by
    cases h : hasV (delV S x) x
    · rfl
    · exact absurd rfl (hasV_del.1 h).2
  have hlt := delV_lt (hasV_names.2 hx)
  have hm : maE10 (delV S x) x = 0 := by
    unfold maE10
    rw [hname, hno, if_pos rfl, if_neg (by simp), if_neg (by have := hg.few; omega)]
  rw [e1]
  refine ⟨hm, ?_, fun g n => ?_⟩
  · unfold maS10
    rw [if_pos hm]
    refine riseT_ext (riseV_put (riseV_del hg.rise x) x []).names hg.rise.names fun y => ?_
    rw [names_put, names_del]
    constructor
    · rintro (rfl | h)
      · exact hx
      · exact h.1
    · intro h
      by_cases e : y = x
      · exact .inl e
      · exact .inr ⟨h, e⟩
  · unfold maS10
    rw [if_pos hm, in10_put (riseV_del hg.rise x) hno, in10_del hg.rise]
/-- One joins: one group more has it. -/
theorem joined10 (hg : Good10 S k) {x n : List UInt8} (he : joE10 S x n = 0) : (of10 (joS10 S x n) n).length = (of10 S n).length + 1 := by
  obtain ⟨hf, hi⟩ := joE10_zero he
  obtain ⟨_, _, hh⟩ := findE10_zero hf
  have hr := hg.rise
  have e : of10 (joS10 S x n) n = insT x (of10 S n) := by
    refine riseT_ext (of10_rise (good_join hg x n).rise n) (insT_rise (of10_rise hr n) fun h => by rw [of10_mem hr, hi] at h; cases h) fun g => ?_
    rw [insT_mem, of10_mem (good_join hg x n).rise, of10_mem hr]
    unfold joS10
    rw [if_pos he, in10_upd hr, in10_iff hr]
    constructor
    · rintro ⟨p, hp, rfl, h⟩
      by_cases e : p.1 = x
      · exact .inl e
      · rw [if_neg e] at h; exact .inr ⟨p, hp, rfl, h⟩
    · rintro (rfl | ⟨p, hp, rfl, h⟩)
      · obtain ⟨p, hp, e⟩ := hasV_iff.1 hh
        exact ⟨p, hp, e, by simp [hasV_put]⟩
      · refine ⟨p, hp, rfl, ?_⟩
        split
        · exact hasV_put.2 (.inr h)
        · exact h
  rw [e, insT_length]
theorem joS10_names (g n : List UInt8) : names10 (joS10 S g n) = names10 S := by
  unfold joS10
  split
  · exact updV_names _ S g
  · rfl
end
end Go.Proofs.Ytmjmglakpnjfkaa
