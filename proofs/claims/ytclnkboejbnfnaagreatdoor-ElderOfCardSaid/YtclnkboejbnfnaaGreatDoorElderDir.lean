/-
  The directory of package elder in memory: a block that holds a map of sums by names; what is there, how many they are, one more, one less.
  Conditions: each theorem's own.
-/
import Derived.Test.YtclnkboejbnfnaaGreatDoorElderAsk
import Derived.Test.YtclnkboejbnfnaaGreatDoorElderMath
import Derived.Test.YtclnkboejbnfnaaGreatDoorWords
import Derived.StringKeys
import Derived.Shelf.SlMaps.Clone
namespace Go.Proofs.YtclnkboejbnfnaaGreatDoor
open Go.RowKit Go.Maps

theorem ownsMap_tight {H : Type} {w : World} {P : Program} {k : TypeId} {R : Value → Option (DataW H × List MemPlace)} {b n : Nat} {D : DataW H} (h : w.ownsMap P k R b n D) : w.ownsMap P k R b (Maps.size D) D := by
  obtain ⟨es, clock, hb, F, _, rfl⟩ := h
  have e1 : Maps.size (DataW.map ((es.toList.map (WideElems.rg P k R)).foldr DataW.insert [])) = es.size := by simp [Maps.size, length_sorted]
  exact ⟨es, clock, hb, F, by rw [e1]; exact Nat.le_refl _, rfl⟩

/-- Block b is a map that reads as the row L. -/
def Map7 (w : World) (b : Nat) (L : Row7) : Prop := w.ownsMap Tryz.prog 9 (plainElem Tryz.prog 9) b L.length (datE L)
theorem Map7.of {w : World} {b n : Nat} {L : Row7} (h : w.ownsMap Tryz.prog 9 (plainElem Tryz.prog 9) b n (datE L)) : Map7 w b L := by
  have := ownsMap_tight h
  rwa [datE_size] at this
theorem Map7.kept {w w' : World} {b : Nat} {L : Row7} (h : Map7 w b L) (hb : w'.heap[b]? = w.heap[b]?) : Map7 w' b L := by
  obtain ⟨es, clock, h1, r⟩ := h
  exact ⟨es, clock, hb.trans h1, r⟩

/-- Block B is a directory with the map p that has the row L. -/
structure Dir7 (w : World) (B : Nat) (p : Option Nat) (L : Row7) : Prop where
  blk : w.heap[B]? = some (.cells #[.map p] 90 (0, 0))
  nil : p = none → L = []
  map : ∀ b, p = some b → Map7 w b L
  rise : Rise7 L
  few : L.length ≤ 12
  all : ∀ q ∈ L, q.1.length ≤ 12 ∧ q.2.length ≤ 12

section
variable {w w' : World} {B : Nat} {p : Option Nat} {L : Row7}
theorem Dir7.lt (h : Dir7 w B p L) : B < w.heap.size := (Array.getElem?_eq_some_iff.1 h.blk).1
theorem Dir7.mlt (h : Dir7 w B p L) : ∀ b, p = some b → b < w.heap.size := fun b hb => (h.map b hb).lt
theorem Dir7.cell (h : Dir7 w B p L) : w.cell? ⟨B, 0, none⟩ = some (.map p) := by simp [World.cell?, h.blk]
theorem Dir7.frozen (h : Dir7 w B p L) : w.frozen? ⟨B, 0, none⟩ = false := by simp [World.frozen?, h.blk]
theorem Dir7.apart (h : Dir7 w B p L) : ∀ b, p = some b → b ≠ B := fun b hb e => by
  obtain ⟨es, clock, h1, _⟩ := h.map b hb
  subst e
  rw [h.blk] at h1
  cases h1
theorem Dir7.turns {S : Nat → Prop} (h : Dir7 w B p L) (ht : Turns S w w') (hB : ¬ S B) (hp : ∀ b, p = some b → ¬ S b) : Dir7 w' B p L :=
  ⟨(ht.block B h.lt hB).trans h.blk, h.nil, fun b hb => (h.map b hb).kept (ht.block b (h.mlt b hb) (hp b hb)), h.rise, h.few, h.all⟩
theorem Dir7.later (h : Dir7 w B p L) (hb : Below w.heap.size w w') : Dir7 w' B p L := h.turns (Turns.of_below hb (fun _ => False)) (fun f => f) (fun _ _ f => f)
end

/-- Behind a deed: the directory has the row L', in the map that it had or in a new one; nothing else has turned. -/
def Goes7 (w : World) (B : Nat) (p : Option Nat) (L' : Row7) (w' : World) : Prop := ∃ p', Dir7 w' B p' L' ∧ (∀ b, p' = some b → p = some b ∨ w.heap.size ≤ b) ∧ Turns (fun i => i = B ∨ p = some i) w w'
theorem Goes7.still {w w' : World} {B : Nat} {p : Option Nat} {L : Row7} (h : Dir7 w B p L) (hb : Below w.heap.size w w') : Goes7 w B p L w' :=
  ⟨p, h.later hb, fun _ e => .inl e, Turns.of_below hb _⟩
theorem Goes7.ahead {w w1 w' : World} {B : Nat} {p : Option Nat} {L' : Row7} (hb : Below w.heap.size w w1) (h : Goes7 w1 B p L' w') : Goes7 w B p L' w' := by
  obtain ⟨p', hd, hp, ht⟩ := h
  exact ⟨p', hd, fun b e => (hp b e).imp id (fun h => Nat.le_trans hb.size h), (Turns.of_below hb _).next ht (fun i _ h => h)⟩
theorem Goes7.behind {w w1 w' : World} {B : Nat} {p : Option Nat} {L' : Row7} (h : Goes7 w B p L' w1) (hb : Below w1.heap.size w1 w') : Goes7 w B p L' w' := by
  obtain ⟨p', hd, hp, ht⟩ := h
  exact ⟨p', hd.later hb, hp, ht.next (Turns.of_below hb (fun _ => False)) (fun _ _ f => f.elim)⟩

theorem keyed7 : Keyed Tryz.prog 9 := string_keyed Tryz.underlying9
theorem zero7 (w : World) : (zeroValue 9).run Tryz.prog w = .ok (.string ⟨#[]⟩) w := by kernel_rfl
theorem key7 (s : ByteArray) (h : s.size ≤ maxLen) : keyOf Tryz.prog 9 (.string s) = some (.string s.data.toList) := WideMaps.keyOf_string_mk Tryz.underlying9 h
theorem bytes7_back (s : ByteArray) (l : List UInt8) (h : s.data.toList = l) : s = ⟨l.toArray⟩ := by
  subst h; simp

/-- A text out of bytes. -/
def tx7 (l : List UInt8) : ByteArray := ⟨l.toArray⟩
theorem tx7_list (l : List UInt8) : (tx7 l).data.toList = l := by simp [tx7]
theorem tx7_back (s : ByteArray) : tx7 s.data.toList = s := by simp [tx7]

/-- 'v, ok := m[k]', 'm[k]', 'len(m)' of a directory's map. -/
theorem look7 {w : World} {B : Nat} {p : Option Nat} {L : Row7} (h : Dir7 w B p L) (s : ByteArray) (hs : s.size ≤ maxLen) :
    (Instr.lookup 88 (.map p) (.string s) true).run Tryz.prog w = .ok (.tuple #[.string (tx7 (getE L s.data.toList)), .bool (hasE L s.data.toList)]) w := by
  cases p with
  | none =>
    have hL := h.nil rfl
    subst hL
    have := Maps.look_nil (P := Tryz.prog) (w := w) (t := 88) true keyed7 Tryz.underlying88 (zero7 w) (key7 s hs)
    exact this
  | some b =>
    obtain ⟨v, ps, hrun, hv⟩ := (h.map b rfl).look_ok keyed7 Tryz.underlying88 (zero7 w) (plainElem_string (H := Unit) Tryz.underlying9 (s := ⟨#[]⟩) (by decide)) (key7 s hs)
    obtain ⟨c, rfl, hc, _⟩ := plainElem_string_inv Tryz.underlying9 hv
    rw [hrun, datE_has]
    have e : (datE L).atKey (.string s.data.toList) (.lit (.string [])) = .lit (.string (getE L s.data.toList)) := datE_at L _
    have hc' : (datE L).atKey (.string s.data.toList) (.lit (.string [])) = .lit (.string c.data.toList) := congrArg Prod.fst hc
    rw [e] at hc'
    have : getE L s.data.toList = c.data.toList := by simpa using hc'
    rw [this, tx7_back]
theorem look71 {w : World} {B : Nat} {p : Option Nat} {L : Row7} (h : Dir7 w B p L) (s : ByteArray) (hs : s.size ≤ maxLen) :
    (Instr.lookup 88 (.map p) (.string s) false).run Tryz.prog w = .ok (.string (tx7 (getE L s.data.toList))) w := by
  cases p with
  | none =>
    have hL := h.nil rfl
    subst hL
    have := Maps.look_nil (P := Tryz.prog) (w := w) (t := 88) false keyed7 Tryz.underlying88 (zero7 w) (key7 s hs)
    exact this
  | some b =>
    obtain ⟨v, ps, hrun, hv⟩ := (h.map b rfl).lookup keyed7 Tryz.underlying88 (zero7 w) (plainElem_string (H := Unit) Tryz.underlying9 (s := ⟨#[]⟩) (by decide)) (key7 s hs)
    obtain ⟨c, rfl, hc, _⟩ := plainElem_string_inv Tryz.underlying9 hv
    rw [hrun]
    have e : (datE L).atKey (.string s.data.toList) (.lit (.string [])) = .lit (.string (getE L s.data.toList)) := datE_at L _
    have hc' : (datE L).atKey (.string s.data.toList) (.lit (.string [])) = .lit (.string c.data.toList) := congrArg Prod.fst hc
    rw [e] at hc'
    have : getE L s.data.toList = c.data.toList := by simpa using hc'
    rw [this, tx7_back]
theorem len7 {w : World} {B : Nat} {p : Option Nat} {L : Row7} (h : Dir7 w B p L) (ty : TypeId) : (Builtin.len_ #[88] ty #[.map p]).run Tryz.prog w = .ok (.int .i64 L.length) w := by
  cases p with
  | none =>
    have hL := h.nil rfl
    subst hL
    exact Maps.len_nil Tryz.underlying88 ty
  | some b =>
    have := (h.map b rfl).len (t := 88) Tryz.underlying88 ty
    rwa [datE_size] at this
theorem nilmap7 (w : World) (p : Option Nat) : (binOp .eql 88 (.map p) (.map none)).run Tryz.prog w = .ok (.bool p.isNone) w :=
  run_eql_map_nil_sl w 88 _ _ p Tryz.underlying88

set_option maxRecDepth 100000 in
theorem has7_calls (B : Nat) (p : Option Nat) (L : Row7) (s : ByteArray) (w : World) (h : Dir7 w B p L) (hs : s.size ≤ maxLen) :
    Calls Tryz.prog 164 #[.pointer (some ⟨B, 0, none⟩), .string s] w (Tells5 (hasE L s.data.toList) w) := by
  have hc := h.cell
  have hl := look7 h s hs
  generalize hasE L s.data.toList = r at *
  generalize tx7 (getE L s.data.toList) = g at *
  clear h hs
  go_enter Tryz.func164, Tryz.ntmps164
  go_wp2
  go_ret
  exact ⟨rfl, Below.refl _ _⟩

set_option maxRecDepth 100000 in
theorem len7_calls (B : Nat) (p : Option Nat) (L : Row7) (w : World) (h : Dir7 w B p L) :
    Calls Tryz.prog 17 #[.pointer (some ⟨B, 0, none⟩)] w fun e w' => e = .returned (.int .i64 L.length) ∧ w' = w := by
  have hc := h.cell
  have hl := len7 h
  generalize L.length = n at *
  clear h
  go_enter Tryz.func17, Tryz.ntmps17
  go_wp2
  go_ret
  exact ⟨rfl, rfl⟩

set_option maxRecDepth 100000 in
theorem new7_calls (w : World) : Calls Tryz.prog 29 #[] w fun e w' => e = .returned (.pointer (some ⟨w.heap.size, 0, none⟩)) ∧ w' = w.alloc (.cells #[.map none] 90) := by
  go_enter Tryz.func29, Tryz.ntmps29
  go_wp2
  go_ret
  exact ⟨rfl, rfl⟩
theorem dir7_new (w : World) : Dir7 (w.alloc (.cells #[.map none] 90)) w.heap.size none [] :=
  ⟨(MapKept.heap_alloc w _).1, fun _ => rfl, (fun _ h => nomatch h), List.Pairwise.nil, by simp, (fun _ h => nomatch h)⟩
end Go.Proofs.YtclnkboejbnfnaaGreatDoor
