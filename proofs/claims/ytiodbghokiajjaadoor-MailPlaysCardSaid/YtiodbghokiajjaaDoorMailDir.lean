/-
  The index of package mail in memory: a block that holds two maps, addresses by names and names by addresses; what is looked up, how many there are, whose an address is.
  Conditions: each theorem's own.
-/
import Derived.Test.YtiodbghokiajjaaDoorElderPut
import Derived.Test.YtiodbghokiajjaaDoorMirror
import Derived.Test.YtiodbghokiajjaaDoorMail
import Derived.WideKeyEntry
namespace Go.Proofs.YtiodbghokiajjaaDoor
open Go.RowKit Go.Maps

theorem foldC_again9 (x : UInt8) : foldC (foldC x) = foldC x := by
  cases h : inR 65 90 x with
  | false => rw [foldC_miss h, foldC_miss h]
  | true =>
    obtain ⟨e, h1, h2⟩ := foldC_hit h
    refine foldC_miss ?_
    unfold inR
    have : ¬ (foldC x).toNat ≤ 90 := by omega
    rw [decide_eq_false this, Bool.and_false]
theorem fold5_again9 (l : List UInt8) : fold5 (fold5 l) = fold5 l := by
  unfold fold5
  rw [List.map_map]
  exact List.map_congr_left fun x _ => foldC_again9 x
theorem mail5_fold {l m : List UInt8} (h : fold5 l = fold5 m) : mail5 l = mail5 m := by
  unfold mail5 cut5
  have hl : l.length = m.length := by rw [← fold5_length l, h, fold5_length]
  rw [h, hl]
theorem mail5_again9 (l : List UInt8) : mail5 (fold5 l) = mail5 l := mail5_fold (fold5_again9 l)
theorem mail5_len {l : List UInt8} (h : mail5 l = true) : l.length ≤ 20 := by
  unfold mail5 at h
  simp only [Bool.and_eq_true, decide_eq_true_eq] at h
  exact h.1.1.1
theorem mail5_nil : mail5 [] = false := by decide
theorem name5_len {n : List UInt8} (h : name5 n = true) : n.length ≤ 12 := by
  unfold name5 pref5 at h
  simp only [Bool.and_eq_true, decide_eq_true_eq] at h
  exact h.1.1.2.1
theorem name5_nil : name5 [] = false := by decide

/-- A name and an address, folded. -/
def May9 (x : List UInt8 × List UInt8) : Prop := name5 x.1 = true ∧ mail5 x.2 = true ∧ fold5 x.2 = x.2
theorem May9.of {n m : List UInt8} (hn : name5 n = true) (hm : mail5 m = true) : May9 (n, fold5 m) := ⟨hn, by rw [mail5_again9]; exact hm, fold5_again9 m⟩
theorem May9.ne1 {x : List UInt8 × List UInt8} (h : May9 x) : x.1 ≠ [] := fun e => by have := h.1; rw [e, name5_nil] at this; cases this
theorem May9.ne2 {x : List UInt8 × List UInt8} (h : May9 x) : x.2 ≠ [] := fun e => by have := h.2.1; rw [e, mail5_nil] at this; cases this

/-- A map that may be nil reads as the row L. -/
structure MapOr9 (w : World) (p : Option Nat) (L : Row7) : Prop where
  nil : p = none → L = []
  map : ∀ b, p = some b → Map7 w b L
theorem MapOr9.turns {w w' : World} {p : Option Nat} {L : Row7} {S : Nat → Prop} (h : MapOr9 w p L) (ht : Turns S w w') (hp : ∀ b, p = some b → ¬ S b) : MapOr9 w' p L :=
  ⟨h.nil, fun b hb => (h.map b hb).kept (ht.block b (h.map b hb).lt (hp b hb))⟩

section
variable {w : World} {p : Option Nat} {L : Row7}
theorem look9 (h : MapOr9 w p L) (s : ByteArray) (hs : s.size ≤ maxLen) :
    (Instr.lookup 52 (.map p) (.string s) true).run Tryd.prog w = .ok (.tuple #[.string (tx7 (getE L s.data.toList)), .bool (hasE L s.data.toList)]) w := by
  cases p with
  | none =>
    have hL := h.nil rfl
    subst hL
    have := Maps.look_nil (P := Tryd.prog) (w := w) (t := 52) true keyed7 Tryd.underlying52 (zero7 w) (key7 s hs)
    exact this
  | some b =>
    obtain ⟨v, ps, hrun, hv⟩ := (h.map b rfl).look_ok keyed7 Tryd.underlying52 (zero7 w) (plainElem_string (H := Unit) Tryd.underlying9 (s := ⟨#[]⟩) (by decide)) (key7 s hs)
    obtain ⟨c, rfl, hc, _⟩ := plainElem_string_inv Tryd.underlying9 hv
    rw [hrun, datE_has]
    have e : (datE L).atKey (.string s.data.toList) (.lit (.string [])) = .lit (.string (getE L s.data.toList)) := datE_at L _
    have hc' : (datE L).atKey (.string s.data.toList) (.lit (.string [])) = .lit (.string c.data.toList) := congrArg Prod.fst hc
    rw [e] at hc'
    have : getE L s.data.toList = c.data.toList := by simpa using hc'
    rw [this, tx7_back]
theorem look91 (h : MapOr9 w p L) (s : ByteArray) (hs : s.size ≤ maxLen) :
    (Instr.lookup 52 (.map p) (.string s) false).run Tryd.prog w = .ok (.string (tx7 (getE L s.data.toList))) w := by
  cases p with
  | none =>
    have hL := h.nil rfl
    subst hL
    have := Maps.look_nil (P := Tryd.prog) (w := w) (t := 52) false keyed7 Tryd.underlying52 (zero7 w) (key7 s hs)
    exact this
  | some b =>
    obtain ⟨v, ps, hrun, hv⟩ := (h.map b rfl).lookup keyed7 Tryd.underlying52 (zero7 w) (plainElem_string (H := Unit) Tryd.underlying9 (s := ⟨#[]⟩) (by decide)) (key7 s hs)
    obtain ⟨c, rfl, hc, _⟩ := plainElem_string_inv Tryd.underlying9 hv
    rw [hrun]
    have e : (datE L).atKey (.string s.data.toList) (.lit (.string [])) = .lit (.string (getE L s.data.toList)) := datE_at L _
    have hc' : (datE L).atKey (.string s.data.toList) (.lit (.string [])) = .lit (.string c.data.toList) := congrArg Prod.fst hc
    rw [e] at hc'
    have : getE L s.data.toList = c.data.toList := by simpa using hc'
    rw [this, tx7_back]
theorem len9 (h : MapOr9 w p L) (ty : TypeId) : (Builtin.len_ #[52] ty #[.map p]).run Tryd.prog w = .ok (.int .i64 L.length) w := by
  cases p with
  | none =>
    have hL := h.nil rfl
    subst hL
    exact Maps.len_nil Tryd.underlying52 ty
  | some b =>
    have := (h.map b rfl).len (t := 52) Tryd.underlying52 ty
    rwa [datE_size] at this
theorem drop9 (h : MapOr9 w p L) (s : ByteArray) (hs : s.size ≤ maxLen) (ty : TypeId) :
    ∃ w', (Builtin.delete_ #[52, 9] ty #[.map p, .string s]).run Tryd.prog w = .ok (.tuple #[]) w' ∧ MapOr9 w' p (delE L s.data.toList) ∧ Turns (fun i => p = some i) w w' := by
  cases p with
  | none =>
    have hL := h.nil rfl
    subst hL
    exact ⟨w, Maps.drop_nil keyed7 Tryd.underlying52 (key7 s hs) ty, ⟨fun _ => rfl, (fun _ h => nomatch h)⟩, Turns.refl _ w⟩
  | some b =>
    obtain ⟨w', hrun, hown, ht⟩ := (h.map b rfl).drop keyed7 Tryd.underlying52 (key7 s hs) ty
    rw [datE_del] at hown
    exact ⟨w', hrun, ⟨(fun h => nomatch h), fun b' hb' => by cases hb'; exact Map7.of hown⟩, (Turns.refl _ w).grown ht.grown (fun k hk _ => hk.symm ▸ rfl)⟩
theorem nilmap9 (w : World) (p : Option Nat) : (binOp .eql 52 (.map p) (.map none)).run Tryd.prog w = .ok (.bool p.isNone) w :=
  run_eql_map_nil_sl w 52 _ _ p Tryd.underlying52
end

/-- Half a store: the entry is there, what it is to hold isn't yet. -/
def Half9 (W : World) (b : Nat) (L' : Row7) (st val : Value) : Prop :=
  ∃ o, W.heap[b]? = some o ∧ ∀ W2 : World, W2.heap[b]? = some o → ∃ W3, (Instr.entryStore 52 (.map (some b)) st val).run Tryd.prog W2 = .ok () W3 ∧ Map7 W3 b L' ∧ W2.mapTurned W3 b
theorem half9 {W : World} {b : Nat} {L : Row7} (h : Map7 W b L) (hf : L.length ≤ 1000) (k v : ByteArray) (hk : k.size ≤ maxLen) (hv : v.size ≤ maxLen) :
    ∃ (v0 : Value) (st : Nat) (W1 : World), (Instr.mapEntry 52 (.map (some b)) (.string k)).run Tryd.prog W = .ok (.tuple #[v0, .int .i64 (st : Int)]) W1 ∧ Half9 W1 b (putE L k.data.toList v.data.toList) (.int .i64 (st : Int)) (.string v) ∧ W.mapTurned W1 b := by
  obtain ⟨w', hrun, hown, _⟩ := h.store keyed7 Tryd.underlying52 (Nat.lt_of_le_of_lt hf (by decide)) (key7 k hk) (plainElem_string (H := Unit) Tryd.underlying9 hv)
  rw [datE_put] at hown
  have hM := Map7.of hown
  obtain ⟨es, clock, hb, F, _, _⟩ := h
  obtain ⟨v0, st, es1, clock1, h1, _, h3⟩ := WideElems.entry_then_store (t := 52) (WideMaps.string_law Tryd.underlying9) Tryd.underlying52 (z := .string ⟨#[]⟩) (fun u => zero7 u) hb F (key7 k hk)
  refine ⟨v0, st, _, h1, ⟨_, ChangeMaps.heap_setBlock_same hb _, fun W2 hW2 => ?_⟩, ⟨es, clock, es1, clock1, hb, rfl⟩⟩
  obtain ⟨es', clock', r1, r2⟩ := h3 W2 (.string v) hW2
  rw [hrun] at r2
  injection r2 with _ r2
  refine ⟨_, r1, hM.kept ?_, ⟨es1, clock1, es', clock', hW2, rfl⟩⟩
  rw [ChangeMaps.heap_setBlock_same hW2, r2, ChangeMaps.heap_setBlock_same hb]
theorem Half9.kept {W W' : World} {b : Nat} {L' : Row7} {st val : Value} (h : Half9 W b L' st val) (hb : W'.heap[b]? = W.heap[b]?) : Half9 W' b L' st val := by
  obtain ⟨o, h1, h2⟩ := h
  exact ⟨o, hb.trans h1, h2⟩

/-- Block B is an index: its maps p and q have the rows L and M, which mirror each other. -/
structure Idx9 (w : World) (B : Nat) (p q : Option Nat) (L M : Row7) : Prop where
  blk : w.heap[B]? = some (.cells #[.map p, .map q] 54 (0, 0))
  mapp : MapOr9 w p L
  mapq : MapOr9 w q M
  both : p.isSome = q.isSome
  apt : ∀ b c, p = some b → q = some c → b ≠ c
  mir : Mirror9 L M
  few : L.length ≤ 100
  all : ∀ x ∈ L, May9 x

section
variable {w w' : World} {B : Nat} {p q : Option Nat} {L M : Row7}
theorem Idx9.lt (h : Idx9 w B p q L M) : B < w.heap.size := (Array.getElem?_eq_some_iff.1 h.blk).1
theorem Idx9.plt (h : Idx9 w B p q L M) : ∀ b, p = some b → b < w.heap.size := fun b hb => (h.mapp.map b hb).lt
theorem Idx9.qlt (h : Idx9 w B p q L M) : ∀ b, q = some b → b < w.heap.size := fun b hb => (h.mapq.map b hb).lt
theorem Idx9.cell0 (h : Idx9 w B p q L M) : w.cell? ⟨B, 0, none⟩ = some (.map p) := by simp [World.cell?, h.blk]
theorem Idx9.cell1 (h : Idx9 w B p q L M) : w.cell? ⟨B, 1, none⟩ = some (.map q) := by simp [World.cell?, h.blk]
theorem Idx9.frozen0 (h : Idx9 w B p q L M) : w.frozen? ⟨B, 0, none⟩ = false := by simp [World.frozen?, h.blk]
theorem Idx9.frozen1 (h : Idx9 w B p q L M) : w.frozen? ⟨B, 1, none⟩ = false := by simp [World.frozen?, h.blk]
theorem map_ne_cells {b : Nat} {L : Row7} {c : Array Value} {T : TypeId} {fr : Nat × Nat} (hm : Map7 w b L) (hB : w.heap[B]? = some (.cells c T fr)) : b ≠ B := fun e => by
  obtain ⟨es, clock, h1, _⟩ := hm
  subst e
  rw [hB] at h1
  cases h1
theorem Idx9.pne (h : Idx9 w B p q L M) : ∀ b, p = some b → b ≠ B := fun b hb => map_ne_cells (h.mapp.map b hb) h.blk
theorem Idx9.qne (h : Idx9 w B p q L M) : ∀ b, q = some b → b ≠ B := fun b hb => map_ne_cells (h.mapq.map b hb) h.blk
theorem Idx9.turns {S : Nat → Prop} (h : Idx9 w B p q L M) (ht : Turns S w w') (hB : ¬ S B) (hp : ∀ b, p = some b → ¬ S b) (hq : ∀ b, q = some b → ¬ S b) : Idx9 w' B p q L M :=
  ⟨(ht.block B h.lt hB).trans h.blk, h.mapp.turns ht hp, h.mapq.turns ht hq, h.both, h.apt, h.mir, h.few, h.all⟩
theorem Idx9.later (h : Idx9 w B p q L M) (hb : Below w.heap.size w w') : Idx9 w' B p q L M := h.turns (Turns.of_below hb (fun _ => False)) (fun f => f) (fun _ _ f => f) (fun _ _ f => f)
theorem Idx9.rise (h : Idx9 w B p q L M) : Rise7 L := h.mir.rl
end

/-- Nothing has turned but an index and its maps. -/
def Turn9 (B : Nat) (p q : Option Nat) (w w' : World) : Prop := Turns (fun i => i = B ∨ p = some i ∨ q = some i) w w'
/-- Behind a deed: the index has the row L', in the maps that it had or in new ones; nothing else has turned. -/
def Goes9 (w : World) (B : Nat) (p q : Option Nat) (L' : Row7) (w' : World) : Prop :=
  ∃ p' q' M', Idx9 w' B p' q' L' M' ∧ (∀ b, p' = some b → p = some b ∨ w.heap.size ≤ b) ∧ (∀ b, q' = some b → q = some b ∨ w.heap.size ≤ b) ∧ Turn9 B p q w w'
theorem Goes9.still {w w' : World} {B : Nat} {p q : Option Nat} {L M : Row7} (h : Idx9 w B p q L M) (hb : Below w.heap.size w w') : Goes9 w B p q L w' :=
  ⟨p, q, M, h.later hb, fun _ e => .inl e, fun _ e => .inl e, Turns.of_below hb _⟩
theorem Goes9.ahead {w w1 w' : World} {B : Nat} {p q : Option Nat} {L' : Row7} (hb : Below w.heap.size w w1) (h : Goes9 w1 B p q L' w') : Goes9 w B p q L' w' := by
  obtain ⟨p', q', M', hd, hp, hq, ht⟩ := h
  exact ⟨p', q', M', hd, fun b e => (hp b e).imp id (fun h => Nat.le_trans hb.size h), fun b e => (hq b e).imp id (fun h => Nat.le_trans hb.size h), (Turns.of_below hb _).next ht (fun i _ h => h)⟩
theorem Goes9.behind {w w1 w' : World} {B : Nat} {p q : Option Nat} {L' : Row7} (h : Goes9 w B p q L' w1) (hb : Below w1.heap.size w1 w') : Goes9 w B p q L' w' := by
  obtain ⟨p', q', M', hd, hp, hq, ht⟩ := h
  exact ⟨p', q', M', hd.later hb, hp, hq, Turns.next ht (Turns.of_below hb (fun _ => False)) (fun _ _ f => f.elim)⟩

set_option maxRecDepth 100000 in
theorem new9_calls (w : World) : Calls Tryd.prog 8 #[] w fun e w' => e = .returned (.pointer (some ⟨w.heap.size, 0, none⟩)) ∧ w' = w.alloc (.cells #[.map none, .map none] 54) := by
  go_enter Tryd.func8, Tryd.ntmps8
  go_wp2
  go_ret
  exact ⟨rfl, rfl⟩
theorem idx9_new (w : World) : Idx9 (w.alloc (.cells #[.map none, .map none] 54)) w.heap.size none none [] [] :=
  ⟨(MapKept.heap_alloc w _).1, ⟨fun _ => rfl, (fun _ h => nomatch h)⟩, ⟨fun _ => rfl, (fun _ h => nomatch h)⟩, rfl, (fun _ _ h => nomatch h), Mirror9.nil, by simp, (fun _ h => nomatch h)⟩

set_option maxRecDepth 100000 in
theorem of9_calls (B : Nat) (p q : Option Nat) (L M : Row7) (s : ByteArray) (w : World) (h : Idx9 w B p q L M) (hs : s.size ≤ maxLen) :
    Calls Tryd.prog 17 #[.pointer (some ⟨B, 0, none⟩), .string s] w fun e w' => e = .returned (.tuple #[.string (tx7 (getE L s.data.toList)), .bool (hasE L s.data.toList)]) ∧ w' = w := by
  have hc := h.cell0
  have hl := look9 h.mapp s hs
  generalize hasE L s.data.toList = r at *
  generalize tx7 (getE L s.data.toList) = g at *
  clear h hs
  go_enter Tryd.func17, Tryd.ntmps17
  go_wp2
  go_ret2
  exact ⟨rfl, rfl⟩

set_option maxRecDepth 100000 in
theorem len9_calls (B : Nat) (p q : Option Nat) (L M : Row7) (w : World) (h : Idx9 w B p q L M) :
    Calls Tryd.prog 20 #[.pointer (some ⟨B, 0, none⟩)] w fun e w' => e = .returned (.int .i64 L.length) ∧ w' = w := by
  have hc := h.cell0
  have hl := len9 h.mapp
  generalize L.length = n at *
  clear h
  go_enter Tryd.func20, Tryd.ntmps20
  go_wp2
  go_ret
  exact ⟨rfl, rfl⟩

/-- Whose an address is: the error, and the name. -/
def fiE9 (L : Row7) (m : List UInt8) : Int := if mail5 m then (if hasO L (fold5 m) then 0 else 8) else 11
def fiS9 (L : Row7) (m : List UInt8) : List UInt8 := if fiE9 L m = 0 then ownO L (fold5 m) else []

set_option maxRecDepth 100000 in
theorem find9_calls (B : Nat) (p q : Option Nat) (L M : Row7) (s : ByteArray) (w : World) (h : Idx9 w B p q L M) (hs : s.size ≤ 9223372036854775807) (hm : Len5 w) :
    Calls Tryd.prog 18 #[.pointer (some ⟨B, 0, none⟩), .string s] w fun e w' => e = .returned (.tuple #[.string (tx7 (fiS9 L s.data.toList)), .int .i64 (fiE9 L s.data.toList)]) ∧ Below w.heap.size w w' := by
  have HM := Lib.hid (mail_calls s w hs hm)
  unfold fiS9 fiE9
  unfold mailT at HM
  cases hb : mail5 s.data.toList with
  | false =>
    rw [hb] at HM
    clear h
    show Calls _ _ _ _ fun e w' => e = .returned (.tuple #[.string ⟨#[]⟩, .int .i64 11]) ∧ Below w.heap.size w w'
    have HM2 : Hid (Calls Tryd.prog 27 #[.string s] w fun e w' => e = .returned (.tuple #[.string ⟨#[]⟩, .int .i64 11]) ∧ Below w.heap.size w w') := HM.out
    clear HM hb
    go_enter Tryd.func18, Tryd.ntmps18
    go_wp2_with fail
    with_reducible refine HM2.out.mono ?_
    rintro e w1 ⟨rfl, hb⟩
    have HB := Lib.hid hb
    clear hb HM2
    go_wp2
    go_ret2
    exact ⟨rfl, HB.out⟩
  | true =>
    rw [hb] at HM
    have HM2 : Hid (Calls Tryd.prog 27 #[.string s] w fun e w' => e = .returned (.tuple #[.string ⟨(fold5 s.data.toList).toArray⟩, .int .i64 0]) ∧ Below w.heap.size w w') := HM.out
    have hfz : (ByteArray.mk (fold5 s.data.toList).toArray).size ≤ maxLen := by
      show (fold5 s.data.toList).toArray.size ≤ _
      rw [List.size_toArray, fold5_length, size_list]; exact Nat.le_trans hs (by decide)
    have HL : Hid (∀ W, Idx9 W B p q L M → (Instr.lookup 52 (.map q) (.string ⟨(fold5 s.data.toList).toArray⟩) true).run Tryd.prog W = .ok (.tuple #[.string (tx7 (ownO L (fold5 s.data.toList))), .bool (hasO L (fold5 s.data.toList))]) W) := fun W hW => by
      have := look9 hW.mapq ⟨(fold5 s.data.toList).toArray⟩ hfz
      have e : (ByteArray.mk (fold5 s.data.toList).toArray).data.toList = fold5 s.data.toList := by simp
      rw [e, hW.mir.get, hW.mir.has] at this
      exact this
    have HI := Lib.hid h
    clear HM hb h hfz
    simp only [if_true]
    have ho : hasO L (fold5 s.data.toList) = false → ownO L (fold5 s.data.toList) = [] := ownO_none
    generalize ownO L (fold5 s.data.toList) = o at *
    generalize hasO L (fold5 s.data.toList) = b at *
    generalize (⟨(fold5 s.data.toList).toArray⟩ : ByteArray) = f at *
    cases b with
    | true =>
      show Calls _ _ _ _ fun e w' => e = .returned (.tuple #[.string (tx7 o), .int .i64 0]) ∧ Below w.heap.size w w'
      clear ho
      generalize tx7 o = t at *
      go_enter Tryd.func18, Tryd.ntmps18
      go_wp2_with fail
      with_reducible refine HM2.out.mono ?_
      rintro e w1 ⟨rfl, hb⟩
      have HB := Lib.hid hb
      have c1 := (HI.out.later hb).cell1
      have l1 := HL.out w1 (HI.out.later hb)
      clear hb HM2 HL
      go_wp2
      go_ret2
      exact ⟨rfl, HB.out⟩
    | false =>
      show Calls _ _ _ _ fun e w' => e = .returned (.tuple #[.string ⟨#[]⟩, .int .i64 8]) ∧ Below w.heap.size w w'
      clear ho
      generalize tx7 o = t at *
      go_enter Tryd.func18, Tryd.ntmps18
      go_wp2_with fail
      with_reducible refine HM2.out.mono ?_
      rintro e w1 ⟨rfl, hb⟩
      have HB := Lib.hid hb
      have c1 := (HI.out.later hb).cell1
      have l1 := HL.out w1 (HI.out.later hb)
      clear hb HM2 HL
      go_wp2
      go_ret2
      exact ⟨rfl, HB.out⟩
end Go.Proofs.YtiodbghokiajjaaDoor
