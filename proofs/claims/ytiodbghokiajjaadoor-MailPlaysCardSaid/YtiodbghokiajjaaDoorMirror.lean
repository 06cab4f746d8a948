/-
  Plain facts on two rows that are turned: names with addresses, addresses with names; what is put and dropped in both.
  Conditions: none.
-/
import Derived.Test.YtiodbghokiajjaaDoorElderMath
namespace Go.Proofs.YtiodbghokiajjaaDoor
open Go.Maps

/-- Names by addresses: the same pairs, turned. -/
structure Mirror9 (L M : Row7) : Prop where
  rl : Rise7 L
  rm : Rise7 M
  iff : ∀ n a, (n, a) ∈ L ↔ (a, n) ∈ M

/-- Whose an address is. -/
def hasO (L : Row7) (a : List UInt8) : Bool := L.any (fun p => p.2 == a)
def ownO (L : Row7) (a : List UInt8) : List UInt8 := match L.find? (fun p => p.2 == a) with | some p => p.1 | none => []

theorem rise_one {L : Row7} (h : Rise7 L) {n a b : List UInt8} (ha : (n, a) ∈ L) (hb : (n, b) ∈ L) : a = b := by
  have h1 := get_mem h ha
  have h2 := get_mem h hb
  exact h1.symm.trans h2
theorem hasE_mem {L : Row7} {n : List UInt8} (h : hasE L n = true) : (n, getE L n) ∈ L := by
  unfold hasE at h
  unfold getE
  obtain ⟨p, hp, e⟩ := List.any_eq_true.1 h
  cases hf : L.find? (fun p => p.1 == n) with
  | none => exact absurd e (by simpa using List.find?_eq_none.1 hf p hp)
  | some q =>
    have h1 := List.mem_of_find?_eq_some hf
    have h2 := List.find?_some hf
    have : q.1 = n := by simpa using h2
    rw [← this]; exact h1
theorem mem_hasE {L : Row7} {n a : List UInt8} (h : (n, a) ∈ L) : hasE L n = true := hasE_iff.2 ⟨_, h, rfl⟩
theorem getE_none {L : Row7} {n : List UInt8} (h : hasE L n = false) : getE L n = [] := by
  unfold getE
  cases hf : L.find? (fun p => p.1 == n) with
  | none => rfl
  | some q =>
    have h1 := List.mem_of_find?_eq_some hf
    have h2 := List.find?_some hf
    have : hasE L n = true := hasE_iff.2 ⟨q, h1, by simpa using h2⟩
    rw [h] at this; cases this
theorem hasO_mem {L : Row7} {a : List UInt8} (h : hasO L a = true) : (ownO L a, a) ∈ L := by
  unfold hasO at h
  unfold ownO
  obtain ⟨p, hp, e⟩ := List.any_eq_true.1 h
  cases hf : L.find? (fun p => p.2 == a) with
  | none => exact absurd e (by simpa using List.find?_eq_none.1 hf p hp)
  | some q =>
    have h1 := List.mem_of_find?_eq_some hf
    have h2 := List.find?_some hf
    have : q.2 = a := by simpa using h2
    rw [← this]; exact h1
theorem mem_hasO {L : Row7} {n a : List UInt8} (h : (n, a) ∈ L) : hasO L a = true := List.any_eq_true.2 ⟨_, h, by simp⟩
theorem ownO_none {L : Row7} {a : List UInt8} (h : hasO L a = false) : ownO L a = [] := by
  unfold ownO
  cases hf : L.find? (fun p => p.2 == a) with
  | none => rfl
  | some q =>
    have h1 := List.mem_of_find?_eq_some hf
    have h2 := List.find?_some hf
    have : hasO L a = true := List.any_eq_true.2 ⟨q, h1, h2⟩
    rw [h] at this; cases this

theorem mem_putE {L : Row7} {k v : List UInt8} {q : List UInt8 × List UInt8} : q ∈ putE L k v ↔ q = (k, v) ∨ q ∈ L ∧ q.1 ≠ k := by
  unfold putE
  rw [mem_ins, mem_del]
theorem rise_ext {L M : Row7} (hl : Rise7 L) (hm : Rise7 M) (h : ∀ q, q ∈ L ↔ q ∈ M) : L = M := by
  have hnl : L.Nodup := hl.imp fun {a b} hb e => by subst e; rw [before_irrefl] at hb; cases hb
  have hnm : M.Nodup := hm.imp fun {a b} hb e => by subst e; rw [before_irrefl] at hb; cases hb
  have hp : L.Perm M := (List.perm_ext_iff_of_nodup hnl hnm).2 h
  refine List.Perm.eq_of_pairwise (le := fun (p q : List UInt8 × List UInt8) => bytesBefore p.1 q.1 = true) ?_ hl hm hp
  intro a b _ _ h1 h2
  rw [before_anti h1] at h2; cases h2

section
variable {L M : Row7}
theorem Mirror9.nil : Mirror9 [] [] := ⟨List.Pairwise.nil, List.Pairwise.nil, by simp⟩
theorem Mirror9.length (h : Mirror9 L M) : M.length = L.length := by
  have hnl : L.Nodup := h.rl.imp fun {a b} hb e => by subst e; rw [before_irrefl] at hb; cases hb
  have hnm : M.Nodup := h.rm.imp fun {a b} hb e => by subst e; rw [before_irrefl] at hb; cases hb
  have hn2 : (L.map fun p => (p.2, p.1)).Nodup := by
    unfold List.Nodup
    rw [List.pairwise_map]
    refine hnl.imp fun {a b} hb e => hb ?_
    injection e with e1 e2
    exact Prod.ext e2 e1
  have : (L.map fun p => (p.2, p.1)).Perm M := (List.perm_ext_iff_of_nodup hn2 hnm).2 fun q => by
    rw [List.mem_map]
    constructor
    · rintro ⟨p, hp, rfl⟩
      exact (h.iff p.1 p.2).1 hp
    · intro hq
      exact ⟨(q.2, q.1), (h.iff q.2 q.1).2 hq, rfl⟩
  have := this.length_eq
  rw [List.length_map] at this
  exact this.symm
theorem Mirror9.has (h : Mirror9 L M) (a : List UInt8) : hasE M a = hasO L a := by
  cases hh : hasO L a
  · cases hm : hasE M a
    · rfl
    · have := mem_hasO ((h.iff _ _).2 (hasE_mem hm))
      rw [hh] at this; cases this
  · exact mem_hasE ((h.iff _ _).1 (hasO_mem hh))
theorem Mirror9.get (h : Mirror9 L M) (a : List UInt8) : getE M a = ownO L a := by
  cases hh : hasO L a
  · rw [ownO_none hh, getE_none (by rw [h.has, hh])]
  · exact get_mem h.rm ((h.iff _ _).1 (hasO_mem hh))
/-- No two names have one address. -/
theorem Mirror9.one (h : Mirror9 L M) {n k a : List UInt8} (h1 : (n, a) ∈ L) (h2 : (k, a) ∈ L) : n = k := rise_one h.rm ((h.iff _ _).1 h1) ((h.iff _ _).1 h2)
theorem Mirror9.own (h : Mirror9 L M) {n a : List UInt8} (h1 : (n, a) ∈ L) : ownO L a = n := h.one (hasO_mem (mem_hasO h1)) h1
theorem Mirror9.del (h : Mirror9 L M) {n : List UInt8} (hn : hasE L n = true) : Mirror9 (delE L n) (delE M (getE L n)) := by
  have hm := hasE_mem hn
  refine ⟨rise_del h.rl n, rise_del h.rm _, fun k b => ?_⟩
  rw [mem_del, mem_del]
  constructor
  · rintro ⟨h1, h2⟩
    refine ⟨(h.iff _ _).1 h1, fun e => h2 ?_⟩
    have e' : b = getE L n := e
    subst e'
    exact h.one h1 hm
  · rintro ⟨h1, h2⟩
    have h1' := (h.iff _ _).2 h1
    refine ⟨h1', fun e => h2 ?_⟩
    have e' : k = n := e
    subst e'
    exact rise_one h.rl h1' hm
theorem Mirror9.put (h : Mirror9 L M) {n a : List UInt8} (hn : hasE L n = false) (ha : hasO L a = false) : Mirror9 (putE L n a) (putE M a n) := by
  refine ⟨rise_put h.rl n a, rise_put h.rm a n, fun k b => ?_⟩
  rw [mem_putE, mem_putE]
  constructor
  · rintro (e | ⟨h1, h2⟩)
    · injection e with e1 e2; subst e1; subst e2; exact .inl rfl
    · refine .inr ⟨(h.iff _ _).1 h1, fun e => ?_⟩
      have e' : b = a := e
      subst e'
      have := mem_hasO h1
      rw [ha] at this; cases this
  · rintro (e | ⟨h1, h2⟩)
    · injection e with e1 e2; subst e1; subst e2; exact .inl rfl
    · have h1' := (h.iff _ _).2 h1
      refine .inr ⟨h1', fun e => ?_⟩
      have e' : k = n := e
      subst e'
      have := mem_hasE h1'
      rw [hn] at this; cases this
end

theorem hasE_del (L : Row7) (n : List UInt8) : hasE (delE L n) n = false := by
  cases h : hasE (delE L n) n
  · rfl
  · obtain ⟨p, hp, e⟩ := hasE_iff.1 h
    exact absurd e (mem_del.1 hp).2
theorem hasE_del_ne {L : Row7} {n k : List UInt8} (h : k ≠ n) : hasE (delE L n) k = hasE L k := by
  cases hh : hasE L k
  · cases hd : hasE (delE L n) k
    · rfl
    · obtain ⟨p, hp, e⟩ := hasE_iff.1 hd
      have : hasE L k = true := hasE_iff.2 ⟨p, (mem_del.1 hp).1, e⟩
      rw [hh] at this; cases this
  · obtain ⟨p, hp, e⟩ := hasE_iff.1 hh
    exact hasE_iff.2 ⟨p, mem_del.2 ⟨hp, fun e' => h (e.symm.trans e')⟩, e⟩
theorem hasO_del {L : Row7} {n a : List UInt8} (h : hasO L a = false) : hasO (delE L n) a = false := by
  cases hd : hasO (delE L n) a
  · rfl
  · have := mem_hasO (mem_del.1 (hasO_mem hd)).1
    rw [h] at this; cases this
theorem put_del {L : Row7} (h : Rise7 L) (n a : List UInt8) : putE (delE L n) n a = putE L n a := by
  refine rise_ext (rise_put (rise_del h n) n a) (rise_put h n a) fun q => ?_
  rw [mem_putE, mem_putE, mem_del]
  constructor
  · rintro (e | ⟨⟨h1, _⟩, h2⟩)
    · exact .inl e
    · exact .inr ⟨h1, h2⟩
  · rintro (e | ⟨h1, h2⟩)
    · exact .inl e
    · exact .inr ⟨⟨h1, h2⟩, h2⟩
theorem put_same {L : Row7} (h : Rise7 L) {n a : List UInt8} (hm : (n, a) ∈ L) : putE L n a = L := by
  refine rise_ext (rise_put h n a) h fun q => ?_
  rw [mem_putE]
  constructor
  · rintro (e | ⟨h1, _⟩)
    · rw [e]; exact hm
    · exact h1
  · intro hq
    by_cases e : q.1 = n
    · refine .inl (Prod.ext e ?_)
      have : (n, q.2) ∈ L := by rw [← e]; exact hq
      exact rise_one h this hm
    · exact .inr ⟨hq, e⟩
theorem get_put {L : Row7} (h : Rise7 L) (n a : List UInt8) : getE (putE L n a) n = a := get_mem (rise_put h n a) (mem_putE.2 (.inl rfl))
theorem has_put (L : Row7) (n a : List UInt8) : hasE (putE L n a) n = true := mem_hasE (mem_putE.2 (.inl rfl))
theorem del_put {L : Row7} (h : Rise7 L) {n a : List UInt8} (hn : hasE L n = false) : delE (putE L n a) n = L := by
  refine rise_ext (rise_del (rise_put h n a) n) h fun q => ?_
  rw [mem_del, mem_putE]
  constructor
  · rintro ⟨e | ⟨h1, _⟩, h2⟩
    · exact absurd (by rw [e]) h2
    · exact h1
  · intro hq
    have hne : q.1 ≠ n := fun e => by
      have : hasE L n = true := hasE_iff.2 ⟨q, hq, e⟩
      rw [hn] at this; cases this
    exact ⟨.inr ⟨hq, hne⟩, hne⟩
end Go.Proofs.YtiodbghokiajjaaDoor
