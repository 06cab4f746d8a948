/-
  The groups of package group in memory: a block that holds a map of sets by names, each set a map in a block of its own; what is looked up, how many there are, one more, one less.
  Conditions: each theorem's own.
-/
import Derived.Test.YtmjmglakpnjfkaaGroupMath
import Derived.Test.YtmjmglakpnjfkaaWords
import Derived.Test.YtmjmglakpnjfkaaNames
import Derived.StringKeys
import Derived.WideKeyEntry
import Derived.Maps.RangeWalk
import Derived.Shelf.SlMaps.Clone
namespace Go.Proofs.Ytmjmglakpnjfkaa
open Go.RowKit Go.Maps

theorem ownsMap_tight10 {H : Type} {w : World} {P : Program} {k : TypeId} {R : Value → Option (DataW H × List MemPlace)} {b n : Nat} {D : DataW H} (h : w.ownsMap P k R b n D) : w.ownsMap P k R b (Maps.size D) D := by
  obtain ⟨es, clock, hb, F, _, rfl⟩ := h
  have e1 : Maps.size (DataW.map ((es.toList.map (WideElems.rg P k R)).foldr DataW.insert [])) = es.size := by simp [Maps.size, length_sorted]
  exact ⟨es, clock, hb, F, by rw [e1]; exact Nat.le_refl _, rfl⟩
theorem keyed10 : Keyed Try.prog 9 := string_keyed Try.underlying9
theorem key10 (s : ByteArray) (h : s.size ≤ maxLen) : keyOf Try.prog 9 (.string s) = some (.string s.data.toList) := WideMaps.keyOf_string_mk Try.underlying9 h
theorem zerob10 (w : World) : (zeroValue 4).run Try.prog w = .ok (.bool false) w := by kernel_rfl
theorem zeros10 (w : World) : (zeroValue 59).run Try.prog w = .ok (.map none) w := by kernel_rfl
/-- A text out of bytes. -/
def tx10 (l : List UInt8) : ByteArray := ⟨l.toArray⟩
theorem tx10_list (l : List UInt8) : (tx10 l).data.toList = l := by simp [tx10]
theorem tx10_back (s : ByteArray) : tx10 s.data.toList = s := by simp [tx10]
theorem tx10_size (l : List UInt8) : (tx10 l).size = l.length := by rw [← size_list, tx10_list]

/-! ### a set of names -/
def et10 : Unit → DataW Unit := fun _ => .lit (.bool true)
/-- Block b is a map that reads as the set L. -/
def Set10At (w : World) (b : Nat) (L : Set10) : Prop := w.ownsMap Try.prog 9 (plainElem Try.prog 4) b L.length (datV et10 L)
theorem Set10At.of {w : World} {b n : Nat} {L : Set10} (h : w.ownsMap Try.prog 9 (plainElem Try.prog 4) b n (datV et10 L)) : Set10At w b L := by
  have := ownsMap_tight10 h
  rwa [datV_size] at this
theorem Set10At.kept {w w' : World} {b : Nat} {L : Set10} (h : Set10At w b L) (hb : w'.heap[b]? = w.heap[b]?) : Set10At w' b L := by
  obtain ⟨es, clock, h1, r⟩ := h
  exact ⟨es, clock, hb.trans h1, r⟩
theorem plainb_inv10 {v : Value} {z : DataW Unit × List MemPlace} (h : plainElem Try.prog 4 v = some z) : ∃ c, v = .bool c ∧ z = (.lit (.bool c), []) := by
  cases v <;> simp [plainElem, Try.underlying4] at h
  exact ⟨_, rfl, h.symm⟩
theorem atV_none {V : Type} {e : V → DataW Unit} {L : RowV V} {k : List UInt8} (z : DataW Unit) (h : getV L k = none) : (datV e L).atKey (.string k) z = z := by
  rw [datV_at, h]
theorem atV_some {V : Type} {e : V → DataW Unit} {L : RowV V} {k : List UInt8} {v : V} (z : DataW Unit) (h : getV L k = some v) : (datV e L).atKey (.string k) z = e v := by
  rw [datV_at, h]
theorem at_unit10 (L : Set10) (k : List UInt8) : (datV et10 L).atKey (.string k) (.lit (.bool false)) = .lit (.bool (hasV L k)) := by
  cases h : getV L k with
  | none => rw [atV_none _ h, getV_none.1 h]
  | some v =>
    have : hasV L k = true := by
      cases hh : hasV L k
      · rw [getV_none.2 hh] at h; cases h
      · rfl
    rw [atV_some _ h, this]; rfl
/-- 's[n]' of a set that is there. -/
theorem has10 {w : World} {b : Nat} {L : Set10} (h : Set10At w b L) (s : ByteArray) (hs : s.size ≤ maxLen) :
    (Instr.lookup 59 (.map (some b)) (.string s) false).run Try.prog w = .ok (.bool (hasV L s.data.toList)) w := by
  obtain ⟨v, ps, hrun, hv⟩ := h.lookup keyed10 Try.underlying59 (zerob10 w) (plainElem_bool (H := Unit) Try.underlying4 false) (key10 s hs)
  obtain ⟨c, rfl, hc⟩ := plainb_inv10 hv
  rw [hrun]
  have hc' : (datV et10 L).atKey (.string s.data.toList) (.lit (.bool false)) = .lit (.bool c) := congrArg Prod.fst hc
  rw [at_unit10] at hc'
  have : hasV L s.data.toList = c := by simpa using hc'
  rw [this]
/-- 'delete(s, n)'. -/
theorem drop10 {w : World} {b : Nat} {L : Set10} (h : Set10At w b L) (s : ByteArray) (hs : s.size ≤ maxLen) (ty : TypeId) :
    ∃ w', (Builtin.delete_ #[59, 9] ty #[.map (some b), .string s]).run Try.prog w = .ok (.tuple #[]) w' ∧ Set10At w' b (delV L s.data.toList) ∧ w.mapTurned w' b := by
  obtain ⟨w', hrun, hown, ht⟩ := h.drop keyed10 Try.underlying59 (key10 s hs) ty
  rw [datV_del] at hown
  exact ⟨w', hrun, Set10At.of hown, ht⟩
/-- 's[n] = true'. -/
theorem add10 {w : World} {b : Nat} {L : Set10} (h : Set10At w b L) (hf : L.length ≤ 1000) (s : ByteArray) (hs : s.size ≤ maxLen) :
    ∃ w', (Instr.mapUpdate 59 (.map (some b)) (.string s) (.bool true)).run Try.prog w = .ok () w' ∧ Set10At w' b (putV L s.data.toList ()) ∧ w.mapTurned w' b := by
  obtain ⟨w', hrun, hown, ht⟩ := h.store keyed10 Try.underlying59 (Nat.lt_of_le_of_lt hf (by decide)) (key10 s hs) (plainElem_bool (H := Unit) Try.underlying4 true)
  have e : datV et10 (putV L s.data.toList ()) = (datV et10 L).put (.string s.data.toList) (et10 ()) := (datV_put et10 L _ ()).symm
  exact ⟨w', hrun, Set10At.of (by rw [e]; exact hown), ht⟩
theorem set10_made (w : World) : Set10At (w.alloc (.map #[] 0)) w.heap.size [] :=
  Set10At.of (n := 0) (World.ownsMap_made (H := Unit) w Try.prog 9 (plainElem Try.prog 4))

/-! ### groups -/
/-- Groups with their sets' blocks. -/
abbrev Rows10 := RowV (Nat × Set10)
/-- What a set's value reads as: its block. -/
def R10 : Value → Option (DataW Unit × List MemPlace)
  | .map (some b) => some (.lit (.int .i64 b), [])
  | .map none => some (.nil, [])
  | _ => none
def eb10 : Nat × Set10 → DataW Unit := fun p => .lit (.int .i64 p.1)
def plain10 (T : Rows10) : Grs10 := T.map fun p => (p.1, p.2.2)
def blk10 (T : Rows10) (g : List UInt8) : Option Nat := (getV T g).map (·.1)
def ob10 : Option Nat → DataW Unit
  | some b => .lit (.int .i64 b)
  | none => .nil
theorem ob10_inj {o o' : Option Nat} (h : ob10 o = ob10 o') : o = o' := by
  cases o with
  | none => cases o' with
    | none => rfl
    | some b => cases h
  | some a => cases o' with
    | none => cases h
    | some b =>
      unfold ob10 at h
      injection h with h
      injection h with _ h
      rw [Int.ofNat.inj h]
theorem at_blk10 (T : Rows10) (k : List UInt8) : (datV eb10 T).atKey (.string k) .nil = ob10 (blk10 T k) := by
  unfold blk10
  cases h : getV T k with
  | none => rw [atV_none _ h]; rfl
  | some v => rw [atV_some _ h]; rfl
theorem r10_inv {v : Value} {z : DataW Unit × List MemPlace} (h : R10 v = some z) : ∃ o, v = .map o ∧ z.1 = ob10 o := by
  unfold R10 at h
  split at h
  · cases h; exact ⟨_, rfl, rfl⟩
  · cases h; exact ⟨_, rfl, rfl⟩
  · cases h

/-- Block B is groups with the map p, whose sets lie in blocks of their own. -/
structure Grp10 (w : World) (B : Nat) (p : Option Nat) (T : Rows10) : Prop where
  blk : w.heap[B]? = some (.cells #[.map p] 53 (0, 0))
  nil : p = none → T = []
  map : ∀ b, p = some b → w.ownsMap Try.prog 9 R10 b T.length (datV eb10 T)
  sets : ∀ x ∈ T, Set10At w x.2.1 x.2.2
  one : ∀ x ∈ T, ∀ y ∈ T, x.2.1 = y.2.1 → x.1 = y.1
  off : ∀ x ∈ T, p ≠ some x.2.1
  rise : RiseV T

theorem map_ne_cells10 {w : World} {b B n : Nat} {R : Value → Option (DataW Unit × List MemPlace)} {D : DataW Unit} {c : Array Value} {T : TypeId} {fr : Nat × Nat} (hm : w.ownsMap Try.prog 9 R b n D) (hB : w.heap[B]? = some (.cells c T fr)) : b ≠ B := fun e => by
  obtain ⟨es, clock, h1, _⟩ := hm
  subst e
  rw [hB] at h1
  cases h1
section
variable {w w' : World} {B : Nat} {p : Option Nat} {T : Rows10}
theorem Grp10.lt (h : Grp10 w B p T) : B < w.heap.size := (Array.getElem?_eq_some_iff.1 h.blk).1
theorem Grp10.mlt (h : Grp10 w B p T) : ∀ b, p = some b → b < w.heap.size := fun b hb => (h.map b hb).lt
theorem Grp10.slt (h : Grp10 w B p T) : ∀ x ∈ T, x.2.1 < w.heap.size := fun x hx => World.ownsMap.lt (h.sets x hx)
theorem Grp10.cell (h : Grp10 w B p T) : w.cell? ⟨B, 0, none⟩ = some (.map p) := by simp [World.cell?, h.blk]
theorem Grp10.frozen (h : Grp10 w B p T) : w.frozen? ⟨B, 0, none⟩ = false := by simp [World.frozen?, h.blk]
theorem Grp10.mne (h : Grp10 w B p T) : ∀ b, p = some b → b ≠ B := fun b hb => map_ne_cells10 (h.map b hb) h.blk
theorem Grp10.sne (h : Grp10 w B p T) : ∀ x ∈ T, x.2.1 ≠ B := fun x hx => map_ne_cells10 (h.sets x hx) h.blk
theorem Grp10.turns {S : Nat → Prop} (h : Grp10 w B p T) (ht : Turns S w w') (hB : ¬ S B) (hp : ∀ b, p = some b → ¬ S b) (hs : ∀ x ∈ T, ¬ S x.2.1) : Grp10 w' B p T := by
  refine ⟨(ht.block B h.lt hB).trans h.blk, h.nil, fun b hb => ?_, fun x hx => (h.sets x hx).kept (ht.block _ (h.slt x hx) (hs x hx)), h.one, h.off, h.rise⟩
  obtain ⟨es, clock, h1, r⟩ := h.map b hb
  exact ⟨es, clock, (ht.block b (h.mlt b hb) (hp b hb)).trans h1, r⟩
theorem Grp10.later (h : Grp10 w B p T) (hb : Below w.heap.size w w') : Grp10 w' B p T := h.turns (Turns.of_below hb (fun _ => False)) (fun f => f) (fun _ _ f => f) (fun _ _ f => f)

/-- A look-up of a group: its set's block. -/
theorem look10 (h : Grp10 w B p T) (s : ByteArray) (hs : s.size ≤ maxLen) :
    (Instr.lookup 51 (.map p) (.string s) true).run Try.prog w = .ok (.tuple #[.map (blk10 T s.data.toList), .bool (hasV T s.data.toList)]) w := by
  cases p with
  | none =>
    have hL := h.nil rfl
    subst hL
    exact Maps.look_nil (P := Try.prog) (w := w) (t := 51) true keyed10 Try.underlying51 (zeros10 w) (key10 s hs)
  | some b =>
    obtain ⟨v, ps, hrun, hv⟩ := (h.map b rfl).look_ok keyed10 Try.underlying51 (zeros10 w) (show R10 (.map none) = some (.nil, []) from rfl) (key10 s hs)
    obtain ⟨o, rfl, ho⟩ := r10_inv hv
    rw [hrun, datV_has]
    have ho' : (datV eb10 T).atKey (.string s.data.toList) .nil = ob10 o := ho
    rw [at_blk10] at ho'
    rw [ob10_inj ho']
theorem look101 (h : Grp10 w B p T) (s : ByteArray) (hs : s.size ≤ maxLen) :
    (Instr.lookup 51 (.map p) (.string s) false).run Try.prog w = .ok (.map (blk10 T s.data.toList)) w := by
  cases p with
  | none =>
    have hL := h.nil rfl
    subst hL
    exact Maps.look_nil (P := Try.prog) (w := w) (t := 51) false keyed10 Try.underlying51 (zeros10 w) (key10 s hs)
  | some b =>
    obtain ⟨v, ps, hrun, hv⟩ := (h.map b rfl).lookup keyed10 Try.underlying51 (zeros10 w) (show R10 (.map none) = some (.nil, []) from rfl) (key10 s hs)
    obtain ⟨o, rfl, ho⟩ := r10_inv hv
    rw [hrun]
    have ho' : (datV eb10 T).atKey (.string s.data.toList) .nil = ob10 o := ho
    rw [at_blk10] at ho'
    rw [ob10_inj ho']
theorem len10 (h : Grp10 w B p T) (ty : TypeId) : (Builtin.len_ #[51] ty #[.map p]).run Try.prog w = .ok (.int .i64 T.length) w := by
  cases p with
  | none =>
    have hL := h.nil rfl
    subst hL
    exact Maps.len_nil Try.underlying51 ty
  | some b =>
    have := (h.map b rfl).len (t := 51) Try.underlying51 ty
    rwa [datV_size] at this
theorem nilmap10 (w : World) (p : Option Nat) : (binOp .eql 51 (.map p) (.map none)).run Try.prog w = .ok (.bool p.isNone) w :=
  run_eql_map_nil_sl w 51 _ _ p Try.underlying51
end

theorem plain10_has (T : Rows10) (k : List UInt8) : hasV (plain10 T) k = hasV T k := map_hasV (fun v : Nat × Set10 => v.2) T k
theorem plain10_names (T : Rows10) : names10 (plain10 T) = names10 T := map_names (fun v : Nat × Set10 => v.2) T
theorem plain10_len (T : Rows10) : (plain10 T).length = T.length := List.length_map _
theorem plain10_put (T : Rows10) (k : List UInt8) (v : Nat × Set10) : plain10 (putV T k v) = putV (plain10 T) k v.2 := map_putV (fun v : Nat × Set10 => v.2) T k v
theorem plain10_del (T : Rows10) (k : List UInt8) : plain10 (delV T k) = delV (plain10 T) k := map_delV (fun v : Nat × Set10 => v.2) T k
theorem plain10_upd (f : Set10 → Set10) (T : Rows10) (k : List UInt8) : plain10 (updV (fun v => (v.1, f v.2)) T k) = updV f (plain10 T) k := by
  unfold plain10 updV
  rw [List.map_map, List.map_map]
  refine List.map_congr_left fun x _ => ?_
  show (let y := if x.1 = k then (x.1, (x.2.1, f x.2.2)) else x; (y.1, y.2.2)) = if x.1 = k then (x.1, f x.2.2) else (x.1, x.2.2)
  by_cases e : x.1 = k
  · rw [if_pos e, if_pos e]
  · rw [if_neg e, if_neg e]
theorem plain10_mem {T : Rows10} (hr : RiseV T) {x : List UInt8 × (Nat × Set10)} (hx : x ∈ T) : mem10 (plain10 T) x.1 = x.2.2 := by
  have h1 : RiseV (plain10 T) := riseV_names hr (plain10_names T)
  have h2 : (x.1, x.2.2) ∈ plain10 T := List.mem_map.2 ⟨x, hx, rfl⟩
  exact mem10_at h1 h2
theorem blk10_some {T : Rows10} (hr : RiseV T) {x : List UInt8 × (Nat × Set10)} (hx : x ∈ T) : blk10 T x.1 = some x.2.1 := by
  unfold blk10
  rw [(getV_some hr).2 (show (x.1, x.2) ∈ T from hx)]; rfl
theorem blk10_none {T : Rows10} {k : List UInt8} (h : hasV T k = false) : blk10 T k = none := by
  unfold blk10
  rw [getV_none.2 h]; rfl
theorem updV_mem {V : Type} {f : V → V} {L : RowV V} {k : List UInt8} {p : List UInt8 × V} (h : p ∈ updV f L k) : ∃ q ∈ L, p = (q.1, if q.1 = k then f q.2 else q.2) := by
  obtain ⟨q, hq, rfl⟩ := List.mem_map.1 h
  refine ⟨q, hq, ?_⟩
  by_cases e : q.1 = k
  · rw [if_pos e, if_pos e]
  · rw [if_neg e, if_neg e]
/-- A group's set has turned. -/
theorem Grp10.turned {w w' : World} {B : Nat} {p : Option Nat} {T : Rows10} (h : Grp10 w B p T) {x : List UInt8 × (Nat × Set10)} (hx : x ∈ T) (f : Set10 → Set10) (hs : Set10At w' x.2.1 (f x.2.2)) (ht : Turns (fun i => i = x.2.1) w w') : Grp10 w' B p (updV (fun v => (v.1, f v.2)) T x.1) := by
  have hbb : ∀ q ∈ T, (if q.1 = x.1 then (q.2.1, f q.2.2) else q.2).1 = q.2.1 := fun q _ => by split <;> rfl
  refine ⟨(ht.block B h.lt (fun e => h.sne x hx e.symm)).trans h.blk, fun e => ?_, fun b hb => ?_, fun y hy => ?_, fun y hy z hz e => ?_, fun y hy => ?_, riseV_upd h.rise _ _⟩
  · rw [h.nil e] at hx; cases hx
  · have e1 : datV eb10 (updV (fun v => (v.1, f v.2)) T x.1) = datV eb10 T := datV_upd (e := eb10) (f := fun v => (v.1, f v.2)) (fun _ => rfl) T x.1
    rw [e1, show (updV (fun v : Nat × Set10 => (v.1, f v.2)) T x.1).length = T.length from List.length_map _]
    obtain ⟨es, clock, h1, r⟩ := h.map b hb
    exact ⟨es, clock, (ht.block b (h.mlt b hb) (fun e => h.off x hx (by rw [hb, e]))).trans h1, r⟩
  · obtain ⟨q, hq, rfl⟩ := updV_mem hy
    by_cases e : q.1 = x.1
    · have := riseV_one h.rise hq hx e
      subst this
      simp only [if_true]
      exact hs
    · simp only [e, if_false]
      exact (h.sets q hq).kept (ht.block _ (h.slt q hq) (fun e' => e (h.one q hq x hx e')))
  · obtain ⟨q, hq, rfl⟩ := updV_mem hy
    obtain ⟨r, hr, rfl⟩ := updV_mem hz
    simp only [hbb q hq, hbb r hr] at e
    exact h.one q hq r hr e
  · obtain ⟨q, hq, rfl⟩ := updV_mem hy
    simp only [hbb q hq]
    exact h.off q hq

/-- Behind a deed: groups with the rows T', in the map that they had or in a new one, in sets that they had or in new ones; nothing else has turned. -/
def Turn10 (B : Nat) (p : Option Nat) (T : Rows10) (w w' : World) : Prop := Turns (fun i => i = B ∨ p = some i ∨ ∃ x ∈ T, x.2.1 = i) w w'
def Goes10 (w : World) (B : Nat) (p : Option Nat) (T : Rows10) (S' : Grs10) (w' : World) : Prop :=
  ∃ p' T', Grp10 w' B p' T' ∧ plain10 T' = S' ∧ (∀ b, p' = some b → p = some b ∨ w.heap.size ≤ b) ∧ (∀ x ∈ T', (∃ y ∈ T, y.2.1 = x.2.1) ∨ w.heap.size ≤ x.2.1) ∧ Turn10 B p T w w'
theorem Goes10.still {w w' : World} {B : Nat} {p : Option Nat} {T : Rows10} (h : Grp10 w B p T) (hb : Below w.heap.size w w') : Goes10 w B p T (plain10 T) w' :=
  ⟨p, T, h.later hb, rfl, fun _ e => .inl e, fun x hx => .inl ⟨x, hx, rfl⟩, Turns.of_below hb _⟩
theorem Goes10.ahead {w w1 w' : World} {B : Nat} {p : Option Nat} {T : Rows10} {S' : Grs10} (hb : Below w.heap.size w w1) (h : Goes10 w1 B p T S' w') : Goes10 w B p T S' w' := by
  obtain ⟨p', T', hd, hS, hp, hx, ht⟩ := h
  exact ⟨p', T', hd, hS, fun b e => (hp b e).imp id (fun h => Nat.le_trans hb.size h), fun x hh => (hx x hh).imp id (fun h => Nat.le_trans hb.size h), (Turns.of_below hb _).next ht (fun i _ h => h)⟩
theorem Goes10.behind {w w1 w' : World} {B : Nat} {p : Option Nat} {T : Rows10} {S' : Grs10} (h : Goes10 w B p T S' w1) (hb : Below w1.heap.size w1 w') : Goes10 w B p T S' w' := by
  obtain ⟨p', T', hd, hS, hp, hx, ht⟩ := h
  exact ⟨p', T', hd.later hb, hS, hp, hx, Turns.next ht (Turns.of_below hb (fun _ => False)) (fun _ _ f => f.elim)⟩
end Go.Proofs.Ytmjmglakpnjfkaa
