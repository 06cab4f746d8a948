/-
  A Writer that is new since some world: what it writes, and what it leaves; and the bytes of an operation, written.
  Conditions: texts of at most 65535 bytes; the table reads as it is laid.
-/
import Derived.Test.YtkcddihigagknaaOpForm
import Derived.Test.YtkcddihigagknaaWriteC
namespace Go.Proofs.Ytkcddihigagknaa
open Go.RowKit

/-- Iterators over texts are left as they are. -/
def Iters14 (w w' : World) : Prop := ∀ (k : Nat) (s : ByteArray) (p : Nat), w.heap[k]? = some (Obj.stringIter s p) → w'.heap[k]? = some (Obj.stringIter s p)
theorem Wtr.no_iter14 {w : World} {B : Nat} {v : Value} {bs : List UInt8} (h : Wtr w B v bs) {k : Nat} {s : ByteArray} {p : Nat} (hk : w.heap[k]? = some (.stringIter s p)) : ¬ (k = B ∨ v.ownBlock = some k) := by
  rintro (rfl | hv)
  · rw [h.1] at hk; cases hk
  · rcases h.2.2 with ⟨rfl, _⟩ | ⟨g, cap, cur, rfl, _, hg, _⟩
    · simp [Value.ownBlock] at hv
    · have : g = k := by simpa [Value.ownBlock] using hv
      subst this
      rw [hg] at hk; cases hk
/-- A Writer that is new since w, with all that it wrote. -/
def NW14 (w : World) (B : Nat) (bs : List UInt8) (wr : World) : Prop :=
  w.heap.size ≤ B ∧ (∃ v, Wtr wr B v bs ∧ ∀ k, v.ownBlock = some k → w.heap.size ≤ k) ∧ Below w.heap.size w wr
theorem NW14.zero (w : World) : NW14 w w.heap.size [] (w.alloc (.cells #[.slice none 0 0] 65)) :=
  ⟨Nat.le_refl _, ⟨_, ⟨heap_alloc_new w _, World.ownsRow_nil _ _ _ _⟩, fun k hk => by simp [Value.ownBlock] at hk⟩, alloc14 (Below.refl _ _) _⟩
theorem Went.nw14 {w w1 w2 : World} {B : Nat} {v : Value} {bs : List UInt8} (hB : w.heap.size ≤ B) (hv : ∀ k, v.ownBlock = some k → w.heap.size ≤ k) (ht : Below w.heap.size w w1) (h : Went w1 B v bs w2) : NW14 w B bs w2 := by
  obtain ⟨v', hw, ho, ht2⟩ := h
  refine ⟨hB, ⟨v', hw, fun k hk => ?_⟩, ht.trans ((ht2.below_at ht.size (fun i hs => ?_)))⟩
  · rcases ho with ho | ⟨k', ho, hk'⟩
    · exact hv k (ho ▸ hk)
    · rw [ho] at hk; injection hk with hk; have := ht.size; omega
  · rcases hs with hs | hs
    · omega
    · exact hv i hs
theorem Wtr.below14 {w W : World} {B : Nat} {v : Value} {bs : List UInt8} (h : Wtr w B v bs) (hb : Below w.heap.size w W) : Wtr W B v bs :=
  ⟨(hb.block B h.lt).trans h.1, (turns14 hb).owns h.2 (fun _ _ f => f)⟩
theorem NW14.below {w w1 w2 : World} {B : Nat} {bs : List UInt8} (h : NW14 w B bs w1) (hb : Below w1.heap.size w1 w2) : NW14 w B bs w2 := by
  obtain ⟨hB, ⟨v, hw, hv⟩, ht⟩ := h
  exact ⟨hB, ⟨v, hw.below14 hb, hv⟩, next14 ht hb⟩
theorem NW14.iter {w w1 : World} {B : Nat} {bs : List UInt8} (h : NW14 w B bs w1) {k : Nat} {s : ByteArray} {p : Nat} (hk : w1.heap[k]? = some (.stringIter s p)) (hw : w.heap.size ≤ k) (q : Nat) : NW14 w B bs (w1.iterAt k s q) := by
  obtain ⟨hB, ⟨v, hv, ho⟩, ht⟩ := h
  have hn := hv.no_iter14 hk
  refine ⟨hB, ⟨v, ⟨?_, hv.2.1, ?_⟩, ho⟩, Lib.below_iterAt ht hw s q⟩
  · rw [Lib.iterAt_other _ _ _ _ _ (fun e => hn (.inl e.symm))]; exact hv.1
  · rcases hv.2.2 with h0 | ⟨g, cap, cur, rfl, hb, hg, rest⟩
    · exact .inl h0
    · exact .inr ⟨g, cap, cur, rfl, hb, by rw [Lib.iterAt_other _ _ _ _ _ (fun e => hn (.inr (by rw [← e]; rfl)))]; exact hg, rest⟩
theorem Went.iters14 {w w' : World} {B : Nat} {v : Value} {bs bs' : List UInt8} (hw : Wtr w B v bs) (h : Went w B v bs' w') : Iters14 w w' := by
  intro k s p hk
  obtain ⟨_, _, _, ht⟩ := h
  exact (ht.block k (Array.getElem?_eq_some_iff.1 hk).1 (hw.no_iter14 hk)).trans hk

/-- The Writer is told, with so much; iterators are left. -/
def Grows14 (w W : World) (B : Nat) (bs : List UInt8) (e : Ending) (w' : World) : Prop := e = .returned (.pointer (some ⟨B, 0, none⟩)) ∧ NW14 w B bs w' ∧ Iters14 W w'
theorem NW14.byte {w W : World} {B : Nat} {bs : List UInt8} (xi : Int) (x : Nat) (h : NW14 w B bs W) (ex : xi = x) (hx : x < 256) (hr : bs.length ≤ 500000) :
    Calls Try.prog 34 #[.pointer (some ⟨B, 0, none⟩), .int .u8 xi] W (Grows14 w W B (bs ++ le x 1)) := by
  subst ex
  obtain ⟨hB, ⟨v, hw, hv⟩, ht⟩ := h
  exact (byte_calls B v bs x W hw hx (by omega)).mono fun e w' ⟨he, hg⟩ => ⟨he, hg.nw14 hB hv ht, hg.iters14 hw⟩
/-- New bytes are told. -/
def Told14 (w : World) (l : List UInt8) (e : Ending) (w' : World) : Prop := ∃ v, e = .returned v ∧ w'.ownsRow 0 5 1 v l.length (cellsOf l) ∧ (∀ k, v.ownBlock = some k → w.heap.size ≤ k) ∧ Below w.heap.size w w'
theorem NW14.bytes {w W : World} {B : Nat} {bs : List UInt8} (h : NW14 w B bs W) (hr : bs.length ≤ 1000000) :
    Calls Try.prog 28 #[.pointer (some ⟨B, 0, none⟩)] W (Told14 w bs) := by
  obtain ⟨hB, ⟨v, hw, hv⟩, ht⟩ := h
  exact (bytes_calls B v bs W hw (by omega)).mono fun e w' ⟨v', he, ho, hb, ht'⟩ => ⟨v', he, ho, fun k hk => Nat.le_trans ht.size (hb k hk), next14 ht (still14 ht')⟩

/-- What is written of the part of that sign. -/
def part14 (o : O14) (c : UInt8) : List UInt8 := if c = 97 then textB o.a else if c = 98 then textB o.b else if c = 110 then le o.nd.toNat 1 else le o.rl.toNat 1
/-- Its bytes. -/
def opB14 (o : O14) : List UInt8 := le o.kd.toNat 1 ++ (sig14 o.kd.toNat).flatMap (part14 o)
/-- It is not too long to be written whole. -/
def Lit14 (o : O14) : Prop := o.a.size ≤ 65535 ∧ o.b.size ≤ 65535
theorem part14_length {o : O14} (h : Lit14 o) (c : UInt8) : (part14 o c).length ≤ 65537 := by
  obtain ⟨h1, h2⟩ := h
  unfold part14
  split
  · rw [textB_length]; omega
  · split
    · rw [textB_length]; omega
    · split
      · rw [le_length]; omega
      · rw [le_length]; omega
theorem parts14_length {o : O14} (h : Lit14 o) : ∀ l : List UInt8, (l.flatMap (part14 o)).length ≤ 65537 * l.length
  | [] => by simp
  | c :: l => by
    have h1 := part14_length h c
    have h2 := parts14_length h l
    simp only [List.flatMap_cons, List.length_append, List.length_cons]
    omega

end Go.Proofs.Ytkcddihigagknaa
