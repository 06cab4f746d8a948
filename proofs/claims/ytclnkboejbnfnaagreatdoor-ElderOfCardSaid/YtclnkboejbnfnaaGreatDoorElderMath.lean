/-
  Plain facts on a directory of names and sums: a row of pairs that rises by names, what is put, dropped and found; the same as a map's datum.
  Conditions: none.
-/
import Derived.Maps.OwnSet
import Derived.Maps.StringElems
import Derived.Sort.KeysCollected
import Derived.Lib.Bytealg
namespace Go.Proofs.YtclnkboejbnfnaaGreatDoor
open Go.Maps

/-- Names with their sums. -/
abbrev Row7 := List (List UInt8 × List UInt8)

/-- Each name is above the one ahead. -/
def Rise7 (L : Row7) : Prop := L.Pairwise (fun p q => bytesBefore p.1 q.1 = true)

def entE (p : List UInt8 × List UInt8) : Lit × DataW Unit := (.string p.1, .lit (.string p.2))
def datE (L : Row7) : DataW Unit := .map (L.map entE)

def insE (x : List UInt8 × List UInt8) : Row7 → Row7
  | [] => [x]
  | y :: r => if bytesBefore x.1 y.1 then x :: y :: r else y :: insE x r
def delE (L : Row7) (k : List UInt8) : Row7 := L.filter (fun p => !(p.1 == k))
def putE (L : Row7) (k v : List UInt8) : Row7 := insE (k, v) (delE L k)
def hasE (L : Row7) (k : List UInt8) : Bool := L.any (fun p => p.1 == k)
def getE (L : Row7) (k : List UInt8) : List UInt8 := match L.find? (fun p => p.1 == k) with | some p => p.2 | none => []

theorem datE_ins (x : List UInt8 × List UInt8) : ∀ L : Row7, (insE x L).map entE = DataW.insert (entE x) (L.map entE)
  | [] => rfl
  | y :: r => by
    simp only [insE, List.map_cons, DataW.insert]
    have e : (entE x).1.before (entE y).1 = bytesBefore x.1 y.1 := rfl
    rw [e]
    cases bytesBefore x.1 y.1
    · simp [datE_ins x r]
    · simp

theorem datE_fil (k : List UInt8) : ∀ L : Row7, (delE L k).map entE = (L.map entE).filter (fun p => !p.1.sameKey (.string k))
  | [] => rfl
  | y :: r => by
    have ih := datE_fil k r
    unfold delE at ih ⊢
    have e : (entE y).1.sameKey (.string k) = (y.1 == k) := rfl
    simp only [List.filter_cons, List.map_cons, e]
    cases (y.1 == k) <;> simp [ih]

theorem datE_put (L : Row7) (k v : List UInt8) : (datE L).put (.string k) (.lit (.string v)) = datE (putE L k v) := by
  unfold datE putE
  rw [datE_ins, datE_fil]; rfl
theorem datE_del (L : Row7) (k : List UInt8) : (datE L).del (.string k) = datE (delE L k) := by
  unfold datE
  rw [datE_fil]; rfl
theorem datE_has (L : Row7) (k : List UInt8) : Maps.has (datE L) (.string k) = hasE L k := by
  unfold datE hasE
  rw [Maps.has_eq, List.any_map]; rfl
theorem datE_at (L : Row7) (k : List UInt8) : (datE L).atKey (.string k) (.lit (.string [])) = .lit (.string (getE L k)) := by
  unfold datE getE
  unfold DataW.atKey
  simp only [List.find?_map]
  have e : ((fun p : Lit × DataW Unit => p.1.sameKey (.string k)) ∘ entE) = (fun p => p.1 == k) := rfl
  rw [e]
  cases L.find? (fun p => p.1 == k) <;> rfl
theorem datE_size (L : Row7) : Maps.size (datE L) = L.length := by simp [datE, Maps.size]
theorem datE_keys (L : Row7) : strKeys (datE L) = L.map (·.1) := by
  simp only [datE, strKeys, List.map_map]; rfl

/-! ### the order -/
theorem before_cmp : ∀ a b : List UInt8, decide (Lib.compareBytes a b < 0) = bytesBefore a b
  | [], [] => by simp [Lib.compareBytes, bytesBefore]
  | [], _ :: _ => by simp [Lib.compareBytes, bytesBefore]
  | _ :: _, [] => by simp [Lib.compareBytes, bytesBefore]
  | a :: r, b :: s => by
    unfold Lib.compareBytes bytesBefore
    by_cases h : a < b
    · simp [h]
    · by_cases h2 : b < a
      · have hn : a ≠ b := fun e => by subst e; exact h h2
        simp [h, h2, hn]
      · have e : a = b := by
          have h1 := UInt8.not_lt.1 h; have h3 := UInt8.not_lt.1 h2
          exact UInt8.le_antisymm h3 h1
        subst e
        simp [before_cmp r s]

theorem before_irrefl (a : List UInt8) : bytesBefore a a = false := WideAt.bytes_irrefl a
theorem before_ne {a b : List UInt8} (h : bytesBefore a b = true) : a ≠ b := fun e => by subst e; rw [before_irrefl] at h; cases h
theorem before_anti {a b : List UInt8} (h : bytesBefore a b = true) : bytesBefore b a = false := by
  cases hb : bytesBefore b a
  · rfl
  · exact absurd (WideShapes.bytes_trans _ _ _ h hb) (by rw [before_irrefl]; exact Bool.noConfusion)

theorem rise_del {L : Row7} (h : Rise7 L) (k : List UInt8) : Rise7 (delE L k) := h.filter _
theorem mem_ins {x y : List UInt8 × List UInt8} : ∀ {L : Row7}, y ∈ insE x L ↔ y = x ∨ y ∈ L
  | [] => by simp [insE]
  | z :: r => by
    unfold insE
    split
    · simp
    · simp only [List.mem_cons, mem_ins (L := r)]
      constructor
      · rintro (h | h | h)
        · exact .inr (.inl h)
        · exact .inl h
        · exact .inr (.inr h)
      · rintro (h | h | h)
        · exact .inr (.inl h)
        · exact .inl h
        · exact .inr (.inr h)
theorem rise_ins {x : List UInt8 × List UInt8} : ∀ {L : Row7}, Rise7 L → (∀ p ∈ L, p.1 ≠ x.1) → Rise7 (insE x L)
  | [], _, _ => by simp [insE, Rise7]
  | y :: r, h, hn => by
    unfold insE
    obtain ⟨h1, h2⟩ := List.pairwise_cons.1 h
    split
    · rename_i hb
      exact List.pairwise_cons.2 ⟨fun p hp => by
        rcases List.mem_cons.1 hp with rfl | hp
        · exact hb
        · exact WideShapes.bytes_trans _ _ _ hb (h1 p hp), h⟩
    · rename_i hb
      have hyx : bytesBefore y.1 x.1 = true := by
        rcases WideAt.bytes_total y.1 x.1 (hn y (by simp)) with h' | h'
        · exact h'
        · exact absurd h' hb
      exact List.pairwise_cons.2 ⟨fun p hp => by
        rcases mem_ins.1 hp with rfl | hp
        · exact hyx
        · exact h1 p hp, rise_ins h2 (fun p hp => hn p (by simp [hp]))⟩
theorem mem_del {L : Row7} {k : List UInt8} {p : List UInt8 × List UInt8} : p ∈ delE L k ↔ p ∈ L ∧ p.1 ≠ k := by
  unfold delE; simp
theorem rise_put {L : Row7} (h : Rise7 L) (k v : List UInt8) : Rise7 (putE L k v) :=
  rise_ins (rise_del h k) (fun _ hp => (mem_del.1 hp).2)

theorem ins_length (x : List UInt8 × List UInt8) : ∀ L : Row7, (insE x L).length = L.length + 1
  | [] => rfl
  | y :: r => by unfold insE; split <;> simp [ins_length x r]
theorem hasE_iff {L : Row7} {k : List UInt8} : hasE L k = true ↔ ∃ p ∈ L, p.1 = k := by simp [hasE]
theorem del_of_not {L : Row7} {k : List UInt8} (h : hasE L k = false) : delE L k = L := by
  unfold delE; rw [List.filter_eq_self]
  intro p hp
  cases e : (p.1 == k)
  · rfl
  · have : hasE L k = true := hasE_iff.2 ⟨p, hp, by simpa using e⟩
    rw [h] at this; cases this
theorem del_length {L : Row7} (hr : Rise7 L) {k : List UInt8} (h : hasE L k = true) : (delE L k).length + 1 = L.length := by
  induction L with
  | nil => simp [hasE] at h
  | cons y r ih =>
    obtain ⟨h1, h2⟩ := List.pairwise_cons.1 hr
    by_cases e : y.1 = k
    · have hn : hasE r k = false := by
        cases hh : hasE r k
        · rfl
        · obtain ⟨p, hp, hk⟩ := hasE_iff.1 hh
          exact absurd (h1 p hp) (by rw [e, hk, before_irrefl]; exact Bool.noConfusion)
      have e2 := del_of_not hn
      unfold delE at e2 ⊢
      simp [e, e2]
    · have hh : hasE r k = true := by
        obtain ⟨p, hp, hk⟩ := hasE_iff.1 h
        rcases List.mem_cons.1 hp with rfl | hp
        · exact absurd hk e
        · exact hasE_iff.2 ⟨p, hp, hk⟩
      have := ih h2 hh
      unfold delE at this ⊢
      have e' : (y.1 == k) = false := by simpa using e
      rw [List.filter_cons]
      simp only [e', Bool.not_false, if_true, List.length_cons]
      omega
theorem put_length {L : Row7} (hr : Rise7 L) (k v : List UInt8) : (putE L k v).length = if hasE L k then L.length else L.length + 1 := by
  unfold putE
  rw [ins_length]
  cases h : hasE L k
  · rw [del_of_not h]; simp
  · have := del_length hr h; simp; omega

theorem get_mem {L : Row7} (hr : Rise7 L) {q : List UInt8 × List UInt8} (h : q ∈ L) : getE L q.1 = q.2 := by
  induction L with
  | nil => cases h
  | cons y r ih =>
    obtain ⟨h1, h2⟩ := List.pairwise_cons.1 hr
    rcases List.mem_cons.1 h with rfl | h
    · simp [getE]
    · have hne : (y.1 == q.1) = false := by
        have := before_ne (h1 q h)
        simpa using this
      have := ih h2 h
      unfold getE at this ⊢
      rw [List.find?_cons, hne]
      exact this

/-! ### sorting what a map gave -/
theorem sort_names {L : Row7} (hr : Rise7 L) {ss : List (List UInt8)} (hp : ss.Perm (L.map (·.1))) (le : List UInt8 → List UInt8 → Bool) (hle : ∀ x y, le x y = !bytesBefore y x) : ss.mergeSort le = L.map (·.1) := by
  have htr : ∀ a b c, le a b = true → le b c = true → le a c = true := by
    intro a b c h1 h2
    rw [hle] at *
    simp only [Bool.not_eq_eq_eq_not, Bool.not_true] at *
    cases hca : bytesBefore c a
    · rfl
    · by_cases e : a = b
      · subst e; rw [hca] at h2; cases h2
      · rcases WideAt.bytes_total a b e with h | h
        · rw [WideShapes.bytes_trans _ _ _ hca h] at h2; cases h2
        · rw [h] at h1; cases h1
  have htot : ∀ a b, (le a b || le b a) = true := by
    intro a b
    rw [hle, hle]
    cases h : bytesBefore b a
    · rfl
    · rw [before_anti h]; rfl
  have hs : (ss.mergeSort le).Pairwise (fun a b => le a b = true) := List.pairwise_mergeSort htr htot ss
  have hq : (ss.mergeSort le).Perm (L.map (·.1)) := (List.mergeSort_perm ss le).trans hp
  have hL : (L.map (·.1)).Pairwise (fun a b => le a b = true) := by
    rw [List.pairwise_map]
    exact hr.imp (fun h => by rw [hle, before_anti h]; rfl)
  refine List.Perm.eq_of_pairwise (le := fun a b => le a b = true) ?_ hs hL hq
  intro a b _ _ h1 h2
  rw [hle] at h1 h2
  by_cases e : a = b
  · exact e
  · rcases WideAt.bytes_total a b e with h | h
    · rw [h] at h2; cases h2
    · rw [h] at h1; cases h1

end Go.Proofs.YtclnkboejbnfnaaGreatDoor
