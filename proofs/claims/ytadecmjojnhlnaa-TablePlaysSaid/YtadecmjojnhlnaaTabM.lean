/-
  Which requests were taken: a map with a client and a number as its key. A key that isn't there is counted.
  Conditions: none.
-/
import Derived.Test.YtadecmjojnhlnaaTabL
import Derived.WideKeyPair
import Derived.WideKeyMaps2
namespace Go.Proofs.Ytadecmjojnhlnaa
open Go.RowKit Go.MapKept Go.ChangeMaps Go.WideMaps

def key15 (c n : Nat) : Value := .agg #[.int .u64 c, .int .u64 n]
theorem arr15 : ArrKey Try.prog 61 27 2 := ⟨Try.underlying61, by kernel_rfl, by kernel_rfl, by kernel_rfl⟩
theorem wf15 {n : Nat} (h : n < 18446744073709551616) : (Lit.int .u64 n).wf = true := by
  simp [Lit.wf, IntKind.min, IntKind.max, IntKind.signed, IntKind.bits]
  omega
theorem key15_of {c n : Nat} (hc : c < 8) (hn : n < 18446744073709551616) : ∃ k, keyOf Try.prog 61 (key15 c n) = some k := by
  have hsz : Try.prog.types.size = (Try.prog.types.size - 1) + 1 := by
    have : 0 < Try.prog.types.size := of_decide_eq_true (by kernel_rfl)
    omega
  exact ⟨_, keyOf_pair arr15 Try.underlying27 ⟨_, hsz⟩ (wf15 (by omega)) (wf15 hn)⟩
theorem key15_inj {c n c' n' : Nat} (h : key15 c n = key15 c' n') : c = c' ∧ n = n' := by
  unfold key15 at h
  injection h with h
  have h1 := congrArg (fun a : Array Value => a.toList) h
  simp at h1
  exact ⟨by omega, by omega⟩
theorem zero_int15 (w : World) : (zeroValue 3).run Try.prog w = .ok (.int .i64 0) w := by kernel_rfl

/-- The map's entries: each of a client that there is, and of a number that is no higher than its last one. -/
structure Ent15 (X : Nat → Nat) (es : Array MapEntry) (clock : Nat) : Prop where
  st : Stamped es clock
  ks : ∀ x ∈ es.toList, ∃ c n : Nat, x.key = key15 c n ∧ c < 8 ∧ n ≤ X c ∧ n < 18446744073709551616
/-- They lie at block S. -/
def Tak15 (w : World) (S : Nat) (X : Nat → Nat) : Prop := ∃ es clock, w.heap[S]? = some (.map es clock) ∧ Ent15 X es clock
/-- The map's block alone. -/
def At15 (w : World) (S : Nat) (es : Array MapEntry) (clock : Nat) : Prop := w.heap[S]? = some (.map es clock)
theorem Ent15.keys {X : Nat → Nat} {es : Array MapEntry} {clock : Nat} (h : Ent15 X es clock) : ∀ x ∈ es.toList, ∃ l, keyOf Try.prog 61 x.key = some l := fun x hx => by
  obtain ⟨c, n, e, hc, _, hn⟩ := h.ks x hx
  rw [e]
  exact key15_of hc hn
theorem Ent15.mono {X X' : Nat → Nat} {es : Array MapEntry} {clock : Nat} (h : Ent15 X es clock) (hX : ∀ c, c < 8 → X c ≤ X' c) : Ent15 X' es clock := ⟨h.st, fun x hx => by
  obtain ⟨c, n, e, hc, h1, hn⟩ := h.ks x hx
  exact ⟨c, n, e, hc, Nat.le_trans h1 (hX c hc), hn⟩⟩
/-- A key that isn't there. -/
theorem Ent15.none {X : Nat → Nat} {es : Array MapEntry} {clock : Nat} (h : Ent15 X es clock) {c n : Nat} (hn : X c < n) : ∀ x ∈ es.toList, x.key ≠ key15 c n := fun x hx e => by
  obtain ⟨c', n', e', hc, h1, _⟩ := h.ks x hx
  obtain ⟨rfl, rfl⟩ := key15_inj (e.symm.trans e')
  omega

section
variable {w : World} {S : Nat} {es : Array MapEntry} {clock c n : Nat} {v : Value}
/-- With the key, once. -/
def With15 (es : Array MapEntry) (clock c n : Nat) (v : Value) : Array MapEntry := es.push ⟨key15 c n, v, clock⟩
theorem with_keys15 (hk : ∀ x ∈ es.toList, ∃ l, keyOf Try.prog 61 x.key = some l) (hc : c < 8) (hn : n < 18446744073709551616) : ∀ x ∈ (With15 es clock c n v).toList, ∃ l, keyOf Try.prog 61 x.key = some l := by
  intro x hx
  unfold With15 at hx
  simp only [Array.toList_push, List.mem_append, List.mem_singleton] at hx
  rcases hx with hx | rfl
  · exact hk x hx
  · exact key15_of hc hn
/-- The key is found at the end. -/
theorem with_find15 (hk : ∀ x ∈ es.toList, ∃ l, keyOf Try.prog 61 x.key = some l) (hc : c < 8) (hn : n < 18446744073709551616) (hno : ∀ x ∈ es.toList, x.key ≠ key15 c n) :
    (Instr.findKey 61 (key15 c n) (With15 es clock c n v).toList).run Try.prog w = .ok (some (es.size, v)) w ∧ (With15 es clock c n v)[es.size]? = some ⟨key15 c n, v, clock⟩ := by
  obtain ⟨kl, hkey⟩ := key15_of hc hn
  have hlast : (With15 es clock c n v)[es.size]? = some ⟨key15 c n, v, clock⟩ := by simp [With15]
  refine ⟨?_, hlast⟩
  rcases arr15.law.find w hkey (With15 es clock c n v).toList (with_keys15 hk hc hn) with ⟨h1, h2⟩ | ⟨j, e0, h1, h2, h3⟩
  · exact absurd rfl (h2 ⟨key15 c n, v, clock⟩ (by simp [With15]))
  · have hj : j = es.size := by
      rcases Nat.lt_or_ge j es.size with hl | hl
      · have : (With15 es clock c n v).toList[j]? = es.toList[j]? := by
          simp only [With15, Array.toList_push]
          exact List.getElem?_append_left (by simpa using hl)
        rw [this] at h2
        exact absurd h3 (hno e0 (List.mem_of_getElem? h2))
      · have hsz : j < (With15 es clock c n v).toList.length := (List.getElem?_eq_some_iff.1 h2).1
        simp [With15] at hsz
        omega
    subst hj
    have : (⟨key15 c n, v, clock⟩ : MapEntry) = e0 := by
      have h4 : (With15 es clock c n v).toList[es.size]? = some ⟨key15 c n, v, clock⟩ := by simpa using hlast
      exact Option.some.inj (h4.symm.trans h2)
    rw [h1, ← this]
theorem look_none15 (hb : At15 w S es clock) (hk : ∀ x ∈ es.toList, ∃ l, keyOf Try.prog 61 x.key = some l) (hc : c < 8) (hn : n < 18446744073709551616) (hno : ∀ x ∈ es.toList, x.key ≠ key15 c n) :
    (Instr.lookup 59 (.map (some S)) (key15 c n) false).run Try.prog w = .ok (.int .i64 0) w := by
  obtain ⟨kl, hkey⟩ := key15_of hc hn
  rcases arr15.law.find w hkey es.toList hk with ⟨h1, h2⟩ | ⟨j, e0, h1, h2, h3⟩
  · simp [Instr.lookup, run_underlying Try.underlying59, MapKept.run_getObj_map hb, arr15.law.check w _ hkey, h1, zero_int15, Result.andThen]
  · exact absurd h3 (hno e0 (List.mem_of_getElem? h2))
theorem look_with15 (hb : At15 w S (With15 es clock c n v) (clock + 1)) (hk : ∀ x ∈ es.toList, ∃ l, keyOf Try.prog 61 x.key = some l) (hc : c < 8) (hn : n < 18446744073709551616) (hno : ∀ x ∈ es.toList, x.key ≠ key15 c n) :
    (Instr.lookup 59 (.map (some S)) (key15 c n) false).run Try.prog w = .ok v w := by
  obtain ⟨kl, hkey⟩ := key15_of hc hn
  obtain ⟨h1, _⟩ := with_find15 (w := w) (clock := clock) (v := v) hk hc hn hno
  simp [Instr.lookup, run_underlying Try.underlying59, MapKept.run_getObj_map hb, arr15.law.check w _ hkey, h1, Result.andThen]
theorem entry_none15 (hb : At15 w S es clock) (hk : ∀ x ∈ es.toList, ∃ l, keyOf Try.prog 61 x.key = some l) (hc : c < 8) (hn : n < 18446744073709551616) (hno : ∀ x ∈ es.toList, x.key ≠ key15 c n) :
    (Instr.mapEntry 59 (.map (some S)) (key15 c n)).run Try.prog w = .ok (.tuple #[.int .i64 0, goInt clock]) (setBlock w S (.map (With15 es clock c n (.int .i64 0)) (clock + 1))) := by
  obtain ⟨kl, hkey⟩ := key15_of hc hn
  rcases arr15.law.find w hkey es.toList hk with ⟨h1, h2⟩ | ⟨j, e0, h1, h2, h3⟩
  · simp [Instr.mapEntry, run_underlying Try.underlying59, MapKept.run_getObj_map hb, arr15.law.check w false hkey, h1, zero_int15, MapKept.run_setObj_map _ hb, Result.andThen, setBlock, With15]
  · exact absurd h3 (hno e0 (List.mem_of_getElem? h2))
theorem set_self15 {α : Type} : ∀ (l : List α) (j : Nat) (a : α), l[j]? = some a → l.set j a = l
  | [], _, _, h => by simp at h
  | b :: r, 0, a, h => by simp at h; subst h; rfl
  | b :: r, j + 1, a, h => by simp at h; simp [set_self15 r j a h]
theorem entry_with15 (hb : At15 w S (With15 es clock c n v) (clock + 1)) (hk : ∀ x ∈ es.toList, ∃ l, keyOf Try.prog 61 x.key = some l) (hc : c < 8) (hn : n < 18446744073709551616) (hno : ∀ x ∈ es.toList, x.key ≠ key15 c n) :
    (Instr.mapEntry 59 (.map (some S)) (key15 c n)).run Try.prog w = .ok (.tuple #[v, goInt clock]) (setBlock w S (.map (With15 es clock c n v) (clock + 1))) := by
  obtain ⟨kl, hkey⟩ := key15_of hc hn
  obtain ⟨h1, h2⟩ := with_find15 (w := w) (clock := clock) (v := v) hk hc hn hno
  have hsame : (With15 es clock c n v).modify es.size (fun e => { e with key := key15 c n }) = With15 es clock c n v := by
    apply Array.ext'
    have h3 : (With15 es clock c n v).toList[es.size]? = some ⟨key15 c n, v, clock⟩ := by simpa using h2
    rw [Array.toList_modify, modify_eq_set _ _ _ _ h3]
    exact set_self15 _ _ _ h3
  simp [Instr.mapEntry, run_underlying Try.underlying59, MapKept.run_getObj_map hb, arr15.law.check w false hkey, h1, h2, arr15.law.stays w hkey, hsame, MapKept.run_setObj_map _ hb, Result.andThen, setBlock]
theorem store_with15 (hs : Stamped es clock) (hb : At15 w S (With15 es clock c n v) (clock + 1)) (u : Value) :
    (Instr.entryStore 59 (.map (some S)) (goInt clock) u).run Try.prog w = .ok () (setBlock w S (.map (With15 es clock c n u) (clock + 1))) := by
  have hidx : (With15 es clock c n v).findIdx? (fun e => ((e.born : Nat) : Int) == ((clock : Nat) : Int)) = some es.size := by
    rw [Array.findIdx?_eq_some_iff_findIdx_eq]
    have hlt : es.size < (With15 es clock c n v).size := by simp [With15]
    refine ⟨hlt, ?_⟩
    rw [Array.findIdx_eq hlt]
    refine ⟨by simp [With15], fun j hj => ?_⟩
    have hm : (With15 es clock c n v)[j] ∈ es.toList := by
      simp only [With15, Array.getElem_push_lt hj]
      exact Array.getElem_mem_toList _
    have := hs.1 _ hm
    simp
    omega
  have hmod : (With15 es clock c n v).modify es.size (fun e => { e with val := u }) = With15 es clock c n u := by
    apply Array.ext'
    have h3 : (With15 es clock c n v).toList[es.size]? = some ⟨key15 c n, v, clock⟩ := by simp [With15]
    rw [Array.toList_modify, modify_eq_set _ _ _ _ h3]
    simp [With15]
  simp [Instr.entryStore, MapKept.run_getObj_map hb, asInt, asIntOf, goInt, hidx, hmod, MapKept.run_setObj_map _ hb, Result.andThen, setBlock]
theorem Ent15.with {X X' : Nat → Nat} (h : Ent15 X es clock) (hc : c < 8) (hn : n < 18446744073709551616) (hX : X c < n) (hX' : ∀ i, i < 8 → X i ≤ X' i) (hn' : n ≤ X' c) : Ent15 X' (With15 es clock c n v) (clock + 1) := by
  refine ⟨stamped_push h.st (h.none hX), fun x hx => ?_⟩
  unfold With15 at hx
  simp only [Array.toList_push, List.mem_append, List.mem_singleton] at hx
  rcases hx with hx | rfl
  · exact (h.mono hX').ks x hx
  · exact ⟨c, n, rfl, hc, hn', hn⟩
theorem At15.set (hb : At15 w S es clock) (es' : Array MapEntry) (k' : Nat) : At15 (setBlock w S (.map es' k')) S es' k' := by
  have hl : S < w.heap.size := (Array.getElem?_eq_some_iff.1 hb).1
  simp [At15, setBlock, hl]
theorem turns_set15 (w : World) (S : Nat) (o : Obj) : Turns (fun k => k = S) w (setBlock w S o) := by
  refine ⟨rfl, rfl, rfl, by simp [setBlock], fun k hk hne => ?_⟩
  simp only [setBlock]
  exact Array.getElem?_setIfInBounds_ne (fun e => hne e.symm)
theorem At15.lt (hb : At15 w S es clock) : S < w.heap.size := (Array.getElem?_eq_some_iff.1 hb).1
theorem At15.turns {w' : World} {Q : Nat → Prop} (hb : At15 w S es clock) (ht : Turns Q w w') (hn : ¬ Q S) : At15 w' S es clock := (ht.block S hb.lt hn).trans hb
end
end Go.Proofs.Ytadecmjojnhlnaa
