/-
  The texts that the laws of this seat share, part 4: what the code and the document's own answers tell, walked function by function.
  Conditions: each theorem's own.
-/
import Derived.Maps.OwnSet
import Derived.Maps.StringElems
import Derived.Sort.KeysCollected
import Derived.Lib.Bytealg
import Derived.StringKeys
import Derived.Shelf.SlMaps.Clone
import Derived.Shelf.SlIter.Collect
import Derived.Sort.OwnSorted
import Derived.Test.YtmcomnocpibiiaaGreatDoorProg
import Derived.Test.YtmcomnocpibiiaaGreatDoorRows
import Derived.ProofKit
import Derived.OpenShut
import Derived.ChangeOld
import Derived.SliceStrings
import Derived.Deep.Slices
import Derived.WideKeyEntry
import Derived.Test.YtmcomnocpibiiaaGreatDoorFolMBA
import Derived.Test.YtmcomnocpibiiaaGreatDoorFolMBB
import Derived.Test.YtmcomnocpibiiaaGreatDoorFolMBC
namespace Go.Proofs.YtmcomnocpibiiaaGreatDoor
open Go.RowKit

def first7 : List Int → Int
 | [] => 0
 | e :: l => if e = 0 then first7 l else e



end Go.Proofs.YtmcomnocpibiiaaGreatDoor
namespace Go.Proofs.YtmcomnocpibiiaaGreatDoor
open Go.ChangeShapes Go.WideShapes Go.ChangeAt Go.RowKit Go.Deep

def RdU7 (w : World) (A : Option Addr) (l : List Us) : Prop :=
 l ≠ [] → ∃ b off, A = some ⟨b, off, none⟩ ∧ b < w.heap.size ∧ ∀ i (hi : i < l.length) j u, l[i].cells[j]? = some u → w.cell? ⟨b, off + i * 5 + j, none⟩ = some u
theorem RdU7.later {w w' : World} {A : Option Addr} {l : List Us} (h : RdU7 w A l) (hb : Below w.heap.size w w') : RdU7 w' A l := fun hl => by
 obtain ⟨b, off, rfl, hlt, hc⟩ := h hl
 exact ⟨b, off, rfl, Nat.lt_of_lt_of_le hlt hb.size, fun i hi j u hu => (hb.cell (p := ⟨b, off + i * 5 + j, none⟩) hlt).trans (hc i hi j u hu)⟩


section
variable {H : Type} {enc : TypeId × Value → H} {W : World} {base : Nat} {sp : Nat → Bool} {hd : Bool}
end
end Go.Proofs.YtmcomnocpibiiaaGreatDoor
namespace Go.Proofs.YtmcomnocpibiiaaGreatDoor
open Go.Maps

abbrev Row7 := List (List UInt8 × List UInt8)

def Rise7 (L : Row7) : Prop := L.Pairwise (fun p q => bytesBefore p.1 q.1 = true)

def entE (p : List UInt8 × List UInt8) : Lit × DataW Unit := (.string p.1, .lit (.string p.2))
def datE (L : Row7) : DataW Unit := .map (L.map entE)

def insE (x : List UInt8 × List UInt8) : Row7 → Row7
 | [] => [x]
 | y :: r => if bytesBefore x.1 y.1 then x :: y :: r else y :: insE x r
def delE (L : Row7) (k : List UInt8) : Row7 := L.filter (fun p => !(p.1 == k))
def putE (L : Row7) (k v : List UInt8) : Row7 := insE (k, v) (delE L k)
def hasE (L : Row7) (k : List UInt8) : Bool := L.any (fun p => p.1 == k)
def getE (L : Row7) (k : List UInt8) : List UInt8 := match L.find? (fun p => p.1 == k) with | some p => p.2 | none => []

theorem datE_ins (x : List UInt8 × List UInt8) : ∀ L : Row7, (insE x L).map entE = DataW.insert (entE x) (L.map entE)
 | [] => rfl
 | y :: r => by
  simp only [insE, List.map_cons, DataW.insert]
  have e : (entE x).1.before (entE y).1 = bytesBefore x.1 y.1 := rfl
  rw [e]
  cases bytesBefore x.1 y.1
  ·
   simp [datE_ins x r]
  ·
   simp

theorem datE_fil (k : List UInt8) : ∀ L : Row7, (delE L k).map entE = (L.map entE).filter (fun p => !p.1.sameKey (.string k))
 | [] => rfl
 | y :: r => by
  have ih := datE_fil k r
  unfold delE at ih ⊢
  have e : (entE y).1.sameKey (.string k) = (y.1 == k) := rfl
  simp only [List.filter_cons, List.map_cons, e]
  cases (y.1 == k) <;> simp [ih]

theorem datE_put (L : Row7) (k v : List UInt8) : (datE L).put (.string k) (.lit (.string v)) = datE (putE L k v) := by
 unfold datE putE
 rw [datE_ins, datE_fil]; rfl
theorem datE_del (L : Row7) (k : List UInt8) : (datE L).del (.string k) = datE (delE L k) := by
 unfold datE
 rw [datE_fil]; rfl
theorem datE_has (L : Row7) (k : List UInt8) : Maps.has (datE L) (.string k) = hasE L k := by
 unfold datE hasE
 rw [Maps.has_eq, List.any_map]; rfl
theorem datE_at (L : Row7) (k : List UInt8) : (datE L).atKey (.string k) (.lit (.string [])) = .lit (.string (getE L k)) := by
 unfold datE getE
 unfold DataW.atKey
 simp only [List.find?_map]
 have e : ((fun p : Lit × DataW Unit => p.1.sameKey (.string k)) ∘ entE) = (fun p => p.1 == k) := rfl
 rw [e]
 cases L.find? (fun p => p.1 == k) <;> rfl
theorem datE_size (L : Row7) : Maps.size (datE L) = L.length := by simp [datE, Maps.size]

/-! ### the order -/
theorem before_cmp : ∀ a b : List UInt8, decide (Lib.compareBytes a b < 0) = bytesBefore a b
 | [], [] => by simp [Lib.compareBytes, bytesBefore]
 | [], _ :: _ => by simp [Lib.compareBytes, bytesBefore]
 | _ :: _, [] => by simp [Lib.compareBytes, bytesBefore]
 | a :: r, b :: s => by
  unfold Lib.compareBytes bytesBefore
  by_cases h : a < b
  ·
   simp [h]
  ·
   by_cases h2 : b < a
   ·
    have hn : a ≠ b := fun e => by subst e; exact h h2
    simp [h, h2, hn]
   ·
    have e : a = b := by
     have h1 := UInt8.not_lt.1 h; have h3 := UInt8.not_lt.1 h2
     exact UInt8.le_antisymm h3 h1
    subst e
    simp [before_cmp r s]

theorem before_irrefl (a : List UInt8) : bytesBefore a a = false := WideAt.bytes_irrefl a
theorem before_ne {a b : List UInt8} (h : bytesBefore a b = true) : a ≠ b := fun e => by subst e; rw [before_irrefl] at h; cases h
theorem before_anti {a b : List UInt8} (h : bytesBefore a b = true) : bytesBefore b a = false := by
 cases hb : bytesBefore b a
 ·
  rfl
 ·
  exact absurd (WideShapes.bytes_trans _ _ _ h hb) (by rw [before_irrefl]; exact Bool.noConfusion)

theorem rise_del {L : Row7} (h : Rise7 L) (k : List UInt8) : Rise7 (delE L k) := h.filter _
theorem mem_ins {x y : List UInt8 × List UInt8} : ∀ {L : Row7}, y ∈ insE x L ↔ y = x ∨ y ∈ L
 | [] => by simp [insE]
 | z :: r => by
  unfold insE
  split
  ·
   simp
  ·
   simp only [List.mem_cons, mem_ins (L := r)]
   constructor
   ·
    rintro (h | h | h)
    ·
     exact .inr (.inl h)
    ·
     exact .inl h
    ·
     exact .inr (.inr h)
   ·
    rintro (h | h | h)
    ·
     exact .inr (.inl h)
    ·
     exact .inl h
    ·
     exact .inr (.inr h)
theorem rise_ins {x : List UInt8 × List UInt8} : ∀ {L : Row7}, Rise7 L → (∀ p ∈ L, p.1 ≠ x.1) → Rise7 (insE x L)
 | [], _, _ => by simp [insE, Rise7]
 | y :: r, h, hn => by
  unfold insE
  obtain ⟨h1, h2⟩ := List.pairwise_cons.1 h
  split
  ·
   rename_i hb
   exact List.pairwise_cons.2 ⟨fun p hp => by
    rcases List.mem_cons.1 hp with rfl | hp
    ·
     exact hb
    ·
     exact WideShapes.bytes_trans _ _ _ hb (h1 p hp), h⟩
  ·
   rename_i hb
   have hyx : bytesBefore y.1 x.1 = true := by
    rcases WideAt.bytes_total y.1 x.1 (hn y (by simp)) with h' | h'
    ·
     exact h'
    ·
     exact absurd h' hb
   exact List.pairwise_cons.2 ⟨fun p hp => by
    rcases mem_ins.1 hp with rfl | hp
    ·
     exact hyx
    ·
     exact h1 p hp, rise_ins h2 (fun p hp => hn p (by simp [hp]))⟩
theorem mem_del {L : Row7} {k : List UInt8} {p : List UInt8 × List UInt8} : p ∈ delE L k ↔ p ∈ L ∧ p.1 ≠ k := by
 unfold delE; simp
theorem rise_put {L : Row7} (h : Rise7 L) (k v : List UInt8) : Rise7 (putE L k v) :=
 rise_ins (rise_del h k) (fun _ hp => (mem_del.1 hp).2)

theorem ins_length (x : List UInt8 × List UInt8) : ∀ L : Row7, (insE x L).length = L.length + 1
 | [] => rfl
 | y :: r => by unfold insE; split <;> simp [ins_length x r]
theorem hasE_iff {L : Row7} {k : List UInt8} : hasE L k = true ↔ ∃ p ∈ L, p.1 = k := by simp [hasE]
theorem del_of_not {L : Row7} {k : List UInt8} (h : hasE L k = false) : delE L k = L := by
 unfold delE; rw [List.filter_eq_self]
 intro p hp
 cases e : (p.1 == k)
 ·
  rfl
 ·
  have : hasE L k = true := hasE_iff.2 ⟨p, hp, by simpa using e⟩
  rw [h] at this; cases this
theorem del_length {L : Row7} (hr : Rise7 L) {k : List UInt8} (h : hasE L k = true) : (delE L k).length + 1 = L.length := by
 induction L with
 | nil => simp [hasE] at h
 | cons y r ih =>
  obtain ⟨h1, h2⟩ := List.pairwise_cons.1 hr
  by_cases e : y.1 = k
  ·
   have hn : hasE r k = false := by
    cases hh : hasE r k
    ·
     rfl
    ·
     obtain ⟨p, hp, hk⟩ := hasE_iff.1 hh
     exact absurd (h1 p hp) (by rw [e, hk, before_irrefl]; exact Bool.noConfusion)
   have e2 := del_of_not hn
   unfold delE at e2 ⊢
   simp [e, e2]
  ·
   have hh : hasE r k = true := by
    obtain ⟨p, hp, hk⟩ := hasE_iff.1 h
    rcases List.mem_cons.1 hp with rfl | hp
    ·
     exact absurd hk e
    ·
     exact hasE_iff.2 ⟨p, hp, hk⟩
   have := ih h2 hh
   unfold delE at this ⊢
   have e' : (y.1 == k) = false := by simpa using e
   rw [List.filter_cons]
   simp only [e', Bool.not_false, if_true, List.length_cons]
   omega
theorem put_length {L : Row7} (hr : Rise7 L) (k v : List UInt8) : (putE L k v).length = if hasE L k then L.length else L.length + 1 := by
 unfold putE
 rw [ins_length]
 cases h : hasE L k
 ·
  rw [del_of_not h]; simp
 ·
  have := del_length hr h; simp; omega

theorem get_mem {L : Row7} (hr : Rise7 L) {q : List UInt8 × List UInt8} (h : q ∈ L) : getE L q.1 = q.2 := by
 induction L with
 | nil => cases h
 | cons y r ih =>
  obtain ⟨h1, h2⟩ := List.pairwise_cons.1 hr
  rcases List.mem_cons.1 h with rfl | h
  ·
   simp [getE]
  ·
   have hne : (y.1 == q.1) = false := by
    have := before_ne (h1 q h)
    simpa using this
   have := ih h2 h
   unfold getE at this ⊢
   rw [List.find?_cons, hne]
   exact this

/-! ### sorting what a map gave -/
theorem sort_names {L : Row7} (hr : Rise7 L) {ss : List (List UInt8)} (hp : ss.Perm (L.map (·.1))) (le : List UInt8 → List UInt8 → Bool) (hle : ∀ x y, le x y = !bytesBefore y x) : ss.mergeSort le = L.map (·.1) := by
 have htr : ∀ a b c, le a b = true → le b c = true → le a c = true := by
  intro a b c h1 h2
  rw [hle] at *
  simp only [Bool.not_eq_eq_eq_not, Bool.not_true] at *
  cases hca : bytesBefore c a
  ·
   rfl
  ·
   by_cases e : a = b
   ·
    subst e; rw [hca] at h2; cases h2
   ·
    rcases WideAt.bytes_total a b e with h | h
    ·
     rw [WideShapes.bytes_trans _ _ _ hca h] at h2; cases h2
    ·
     rw [h] at h1; cases h1
 have htot : ∀ a b, (le a b || le b a) = true := by
  intro a b
  rw [hle, hle]
  cases h : bytesBefore b a
  ·
   rfl
  ·
   rw [before_anti h]; rfl
 have hs : (ss.mergeSort le).Pairwise (fun a b => le a b = true) := List.pairwise_mergeSort htr htot ss
 have hq : (ss.mergeSort le).Perm (L.map (·.1)) := (List.mergeSort_perm ss le).trans hp
 have hL : (L.map (·.1)).Pairwise (fun a b => le a b = true) := by
  rw [List.pairwise_map]
  exact hr.imp (fun h => by rw [hle, before_anti h]; rfl)
 refine List.Perm.eq_of_pairwise (le := fun a b => le a b = true) ?_ hs hL hq
 intro a b _ _ h1 h2
 rw [hle] at h1 h2
 by_cases e : a = b
 ·
  exact e
 ·
  rcases WideAt.bytes_total a b e with h | h
  ·
   rw [h] at h2; cases h2
  ·
   rw [h] at h1; cases h1

end Go.Proofs.YtmcomnocpibiiaaGreatDoor
namespace Go.Proofs.YtmcomnocpibiiaaGreatDoor
open Go.RowKit Go.Maps

theorem ownsMap_tight {H : Type} {w : World} {P : Program} {k : TypeId} {R : Value → Option (DataW H × List MemPlace)} {b n : Nat} {D : DataW H} (h : w.ownsMap P k R b n D) : w.ownsMap P k R b (Maps.size D) D := by
 obtain ⟨es, clock, hb, F, _, rfl⟩ := h
 have e1 : Maps.size (DataW.map ((es.toList.map (WideElems.rg P k R)).foldr DataW.insert [])) = es.size := by simp [Maps.size, length_sorted]
 exact ⟨es, clock, hb, F, by rw [e1]; exact Nat.le_refl _, rfl⟩

def Map7 (w : World) (b : Nat) (L : Row7) : Prop := w.ownsMap Tryz.prog 9 (plainElem Tryz.prog 9) b L.length (datE L)
theorem Map7.of {w : World} {b n : Nat} {L : Row7} (h : w.ownsMap Tryz.prog 9 (plainElem Tryz.prog 9) b n (datE L)) : Map7 w b L := by
 have := ownsMap_tight h
 rwa [datE_size] at this
theorem Map7.kept {w w' : World} {b : Nat} {L : Row7} (h : Map7 w b L) (hb : w'.heap[b]? = w.heap[b]?) : Map7 w' b L := by
 obtain ⟨es, clock, h1, r⟩ := h
 exact ⟨es, clock, hb.trans h1, r⟩

section
variable {w w' : World} {B : Nat} {p : Option Nat} {L : Row7}
end

theorem keyed7 : Keyed Tryz.prog 9 := string_keyed Tryz.underlying9
theorem zero7 (w : World) : (zeroValue 9).run Tryz.prog w = .ok (.string ⟨#[]⟩) w := by kernel_rfl
theorem key7 (s : ByteArray) (h : s.size ≤ maxLen) : keyOf Tryz.prog 9 (.string s) = some (.string s.data.toList) := WideMaps.keyOf_string_mk Tryz.underlying9 h

def tx7 (l : List UInt8) : ByteArray := ⟨l.toArray⟩
theorem tx7_list (l : List UInt8) : (tx7 l).data.toList = l := by simp [tx7]
theorem tx7_back (s : ByteArray) : tx7 s.data.toList = s := by simp [tx7]


end Go.Proofs.YtmcomnocpibiiaaGreatDoor
namespace Go.Proofs.YtmcomnocpibiiaaGreatDoor
open Go.RowKit Go.Maps

theorem turned_cells {w w' : World} {B b : Nat} (h : w.mapTurned w' b) (hne : b ≠ B) : w'.heap[B]? = w.heap[B]? := by
 obtain ⟨es, clock, es', clock', _, rfl⟩ := h
 exact ChangeMaps.heap_setBlock_other (by assumption) _ (fun e => hne e.symm)

end Go.Proofs.YtmcomnocpibiiaaGreatDoor
namespace Go.Proofs.YtmcomnocpibiiaaGreatDoor
open Go.RowKit

section
variable {P : Program} {ops : Array Oper} {Q : Exit → Act → World → Prop}

def depsL (ops : Array Oper) (i : Nat) : List Nat := match ops[i]? with
 | some o => (o.after.toList.filter (Region.binds .any)).map (·.on)
 | none => []
def ancL (ops : Array Oper) : Nat → List Nat → List Nat
 | 0, S => S
 | j + 1, S => ancL ops j (if S.contains j then S ++ depsL ops j else S)

theorem deps_true {o : Oper} {i : Nat} {L : Nat → Bool} (ho : ops[i]? = some o) (h : ∀ d, (o.after.toList.any fun e => Region.binds .any e && e.on == d) = true → L d = true) : ∀ a ∈ depsL ops i, L a = true := by
 intro a ha
 unfold depsL at ha
 rw [ho] at ha
 obtain ⟨e, he, rfl⟩ := List.mem_map.1 ha
 obtain ⟨h1, h2⟩ := List.mem_filter.1 he
 exact h _ (List.any_eq_true.2 ⟨e, h1, by simp [h2]⟩)
theorem closed_deps {L : Nat → Bool} (hc : Closed .any ops L) {i : Nat} (hi : L i = true) : ∀ a ∈ depsL ops i, L a = true := by
 cases ho : ops[i]? with
 | none => intro a ha; unfold depsL at ha; rw [ho] at ha; cases ha
 | some o => exact deps_true ho (hc i o ho hi)
theorem anc_true {L : Nat → Bool} (hc : Closed .any ops L) : ∀ (j : Nat) (S : List Nat), (∀ a ∈ S, L a = true) → ∀ a ∈ ancL ops j S, L a = true
 | 0, _, h, a, ha => h a ha
 | j + 1, S, h, a, ha => by
  unfold ancL at ha
  refine anc_true hc j _ ?_ a ha
  intro b hb
  split at hb
  ·
   rename_i hj
   rcases List.mem_append.1 hb with hb | hb
   ·
    exact h b hb
   ·
    exact closed_deps hc (h j (by simpa using hj)) b hb
  ·
   exact h b hb

theorem closed_upd {L : Nat → Bool} (hc : Closed .any ops L) {i : Nat} {o : Oper} (ho : ops[i]? = some o) (hd : ∀ d, (o.after.toList.any fun e => Region.binds .any e && e.on == d) = true → L d = true) : Closed .any ops (updL L i) := by
 intro j oj hoj hLj d hdd
 unfold updL at hLj ⊢
 by_cases e : d = i
 ·
  rw [if_pos e]
 ·
  rw [if_neg e]
  by_cases ej : j = i
  ·
   subst ej
   rw [ho] at hoj
   injection hoj with hoj
   subst hoj
   exact hd d hdd
  ·
   rw [if_neg ej] at hLj
   exact hc j oj hoj hLj d hdd

theorem allO_at {φ : Nat → Oper → Prop} : ∀ {l : List Oper} {k : Nat}, (∀ i o, l[i]? = some o → φ (k + i) o) → AllO φ l k
 | [], _, _ => trivial
 | x :: r, k, h => ⟨h 0 x rfl, allO_at fun i o ho => by
  have := h (i + 1) o (by simpa using ho)
  rwa [show k + (i + 1) = k + 1 + i by omega] at this⟩
theorem allO_of {φ : Nat → Oper → Prop} {l : List Oper} (h : ∀ i o, l[i]? = some o → φ i o) : AllO φ l 0 := allO_at fun i o ho => by
 rw [Nat.zero_add]; exact h i o ho

theorem wp_region_last {id : Nat} {w : World} {a : Act} (hm : P.follows .mixedOrders = true) (last : Nat) (R D : World → Prop) (Y : Nat → Value → World → Prop) (Z : Value → Prop) (F : (Nat → Value) → Act) (hF : ∀ x, putL (ops.toList.map (·.dst)) x 0 a = F x)
  (hap : apartL (ops.toList.map (·.dst)) = true) (hback : (ops.toList.zipIdx.all fun p => p.1.after.all fun e => !(Region.binds .any e) || decide (e.on < p.2)) = true)
  (hanc : ((List.range last).all fun i => (ancL ops last (depsL ops last)).contains i) = true) (hbeh : ((List.range ops.size).all fun j => decide (j ≤ last) || (ancL ops j (depsL ops j)).contains last) = true) (hlt : last < ops.size) (hR : R w.drew)
  (step : AllO (fun i o => ∀ (x : Nat → Value) (w : World),
   (i < last → R w → (∀ j, (o.after.toList.any fun e => Region.binds .any e && e.on == j) = true → Y j (x j) w) →
    ∀ K : Act → World → Prop, (∀ v w', Y i v w' → R w' → (∀ j u, Y j u w → Y j u w') → K ((F x).put o.dst v) w') →
     if Region.wanted o (yielded ops (F x).tmps) = true then Oper.wp P o (F x) w K Q else K ((F x).put o.dst undef) w) ∧
   (i = last → R w → (∀ j, (o.after.toList.any fun e => Region.binds .any e && e.on == j) = true → Y j (x j) w) →
    ∀ K : Act → World → Prop, (∀ v w', Z v → D w' → K ((F x).put o.dst v) w') →
     if Region.wanted o (yielded ops (F x).tmps) = true then Oper.wp P o (F x) w K Q else K ((F x).put o.dst undef) w) ∧
   (last < i → D w → (∀ j, (o.after.toList.any fun e => Region.binds .any e && e.on == j) = true → last ≤ j → Z (x j)) →
    ∀ K : Act → World → Prop, (∀ v, Z v → K ((F x).put o.dst v) w) →
     if Region.wanted o (yielded ops (F x).tmps) = true then Oper.wp P o (F x) w K Q else K ((F x).put o.dst undef) w)) ops.toList 0)
  (fin : ∀ (x : Nat → Value) (w : World), D w → (∀ j, last ≤ j → j < ops.size → Z (x j)) → Q .normal (F x) w) : (Code.region id ops true).wp P Q a w := by
 refine wp_region_gen hm (fun L x W => Closed .any ops L ∧ (∀ j, L j = true → j < ops.size) ∧ ((L last = false ∧ R W ∧ ∀ j, L j = true → Y j (x j) W) ∨ (L last = true ∧ D W ∧ ∀ j, L j = true → last ≤ j → Z (x j)))) F hF hap hback
  (fun _ => ⟨(fun _ _ _ h => nomatch h), (fun _ h => nomatch h), .inl ⟨rfl, hR, (fun _ h => nomatch h)⟩⟩) ?_ ?_
 ·
  have hat := fun i o h => step.at_ i o h
  have gen : ∀ (i : Nat) (o : Oper), ops.toList[i]? = some o → ∀ (L : Nat → Bool) (x : Nat → Value) (w : World), L i = false → (∀ d, (o.after.toList.any fun e => Region.binds .any e && e.on == d) = true → L d = true) →
    (Closed .any ops L ∧ (∀ j, L j = true → j < ops.size) ∧ ((L last = false ∧ R w ∧ ∀ j, L j = true → Y j (x j) w) ∨ (L last = true ∧ D w ∧ ∀ j, L j = true → last ≤ j → Z (x j)))) →
    ∀ K : Act → World → Prop, (∀ v w', (Closed .any ops (updL L i) ∧ (∀ j, updL L i j = true → j < ops.size) ∧ ((updL L i last = false ∧ R w' ∧ ∀ j, updL L i j = true → Y j (upd x i v j) w') ∨ (updL L i last = true ∧ D w' ∧ ∀ j, updL L i j = true → last ≤ j → Z (upd x i v j)))) → K ((F x).put o.dst v) w') →
     if Region.wanted o (yielded ops (F x).tmps) = true then Oper.wp P o (F x) w K Q else K ((F x).put o.dst undef) w := by
   intro i o ho L x w hLi hd hI K hK
   have ho' : ops[i]? = some o := by simpa using ho
   have hisz : i < ops.size := (Array.getElem?_eq_some_iff.1 ho').1
   obtain ⟨hcl, hsz, hI⟩ := hI
   have hcu := closed_upd hcl ho' hd
   have hsu : ∀ j, updL L i j = true → j < ops.size := by
    intro j hj
    unfold updL at hj
    by_cases e : j = i
    ·
     rw [e]; exact hisz
    ·
     rw [if_neg e] at hj; exact hsz j hj
   obtain ⟨s1, s2, s3⟩ := hat i o ho x w
   rw [Nat.zero_add] at s1 s2 s3
   have hbl : ∀ j, last < j → j < ops.size → last ∈ ancL ops j (depsL ops j) := by
    intro j h1 h2
    have := List.all_eq_true.1 hbeh j (List.mem_range.2 h2)
    rw [decide_eq_false (by omega), Bool.false_or] at this
    simpa using this
   rcases hI with ⟨h0, hRw, hY⟩ | ⟨h1, hDw, hZ⟩
   ·
    rcases Nat.lt_trichotomy i last with hil | rfl | hil
    ·
     refine s1 hil hRw (fun j hj => hY j (hd j hj)) K fun v w' hy hr hk => hK v w' ⟨hcu, hsu, .inl ⟨?_, hr, ?_⟩⟩
     ·
      rw [show updL L i last = L last from if_neg (by omega)]; exact h0
     ·
      intro j hj
      by_cases e : j = i
      ·
       subst e; rw [show upd x j v j = v from if_pos rfl]; exact hy
      ·
       rw [show upd x i v j = x j from if_neg e]
       rw [show updL L i j = L j from if_neg e] at hj
       exact hk j _ (hY j hj)
    ·
     refine s2 rfl hRw (fun j hj => hY j (hd j hj)) K fun v w' hz hdw => hK v w' ⟨hcu, hsu, .inr ⟨if_pos rfl, hdw, ?_⟩⟩
     intro j hj hle
     by_cases e : j = i
     ·
      subst e; rw [show upd x j v j = v from if_pos rfl]; exact hz
     ·
      rw [show updL L i j = L j from if_neg e] at hj
      have := anc_true hcl j _ (closed_deps hcl hj) i (hbl j (by omega) (hsz j hj))
      rw [hLi] at this
      cases this
    ·
     exfalso
     have := anc_true hcl i _ (deps_true ho' hd) last (hbl i hil hisz)
     rw [h0] at this
     cases this
   ·
    rcases Nat.lt_trichotomy i last with hil | rfl | hil
    ·
     exfalso
     have h2 := List.all_eq_true.1 hanc i (List.mem_range.2 hil)
     have := anc_true hcl last _ (closed_deps hcl h1) i (by simpa using h2)
     rw [hLi] at this
     cases this
    ·
     rw [hLi] at h1; cases h1
    ·
     refine s3 hil hDw (fun j hj hle => hZ j (hd j hj) hle) K fun v hz => hK v w ⟨hcu, hsu, .inr ⟨?_, hDw, ?_⟩⟩
     ·
      rw [show updL L i last = L last from if_neg (by omega)]; exact h1
     ·
      intro j hj hle
      by_cases e : j = i
      ·
       subst e; rw [show upd x j v j = v from if_pos rfl]; exact hz
      ·
       rw [show upd x i v j = x j from if_neg e]
       rw [show updL L i j = L j from if_neg e] at hj
       exact hZ j hj hle
  exact allO_of gen
 ·
  intro L x w hall ⟨_, _, hI⟩
  rcases hI with ⟨h0, _⟩ | ⟨_, hDw, hZ⟩
  ·
   rw [hall last hlt] at h0; cases h0
  ·
   exact fin x w hDw (fun j h1 h2 => hZ j (hall j h2) h1)
end
end Go.Proofs.YtmcomnocpibiiaaGreatDoor
namespace Go.Proofs.YtmcomnocpibiiaaGreatDoor
open Go.RowKit Go.Maps Go.Sort Go.Shelf

theorem lt7 (x y : List UInt8) : ltOf Lib.compareBytes x y = bytesBefore x y := before_cmp x y
theorem swo7 : SWO (ltOf Lib.compareBytes) where
 irrefl x := by rw [lt7]; exact before_irrefl x
 trans x y z h1 h2 := by rw [lt7] at *; exact WideShapes.bytes_trans _ _ _ h1 h2
 ntrans x y z h1 h2 := by
  rw [lt7] at *
  cases h : bytesBefore x z
  ·
   rfl
  ·
   by_cases e : x = y
   ·
    subst e; rw [h] at h2; cases h2
   ·
    rcases WideAt.bytes_total x y e with h' | h'
    ·
     rw [h'] at h1; cases h1
    ·
     rw [WideShapes.bytes_trans _ _ _ h' h] at h2; cases h2
theorem tot7 (x y : List UInt8) (h1 : ltOf Lib.compareBytes x y = false) (h2 : ltOf Lib.compareBytes y x = false) : x = y := by
 rw [lt7] at *
 by_cases e : x = y
 ·
  exact e
 ·
  rcases WideAt.bytes_total x y e with h' | h'
  ·
   rw [h'] at h1; cases h1
  ·
   rw [h'] at h2; cases h2
theorem cmp7 (blk off size : Nat) (w : World) : CmpLays1 Tryz.prog 151 #[] encStr Lib.compareBytes blk off size w :=
 CmpReads.lays fun _ _ _ _ x y => (compare_calls ⟨x.toArray⟩ ⟨y.toArray⟩ _).mono fun e w' ⟨he, hw⟩ => ⟨by rw [he], 0, hw⟩

set_option maxRecDepth 100000 in
set_option maxHeartbeats 1000000 in
theorem sortedf7_calls (g : Nat) (lb : Array Value) (S : List (List UInt8) → Prop) (N : Nat) (w : World) (eg : ∀ args w, (callFunc g args).run Tryz.prog w = .ok (.enter g args) w) (hN : N ≤ 1000) (hSN : ∀ ss, S ss → ss.length ≤ 1000) (hseq : SeqGives Fence.wide 2 Tryz.prog g lb encStr S N w) :
  Calls Tryz.prog 149 #[.func (.func g) #[] lb, .func (.func 151) #[] #[]] w fun e w' => ∃ (v : Value) (ss : List (List UInt8)), e = .returned v ∧ S ss ∧
   w'.ownsRow w.heap.size 9 1 v ss.length ((ss.mergeSort (fun x y => !(ltOf Lib.compareBytes) y x)).map encStr) ∧ (v = .slice none 0 0 ↔ ss = []) ∧ Below w.heap.size w w' := by
 have cC : Calls Tryz.prog 196 #[.func (.func g) #[] lb] w fun e w' => ∃ (v : Value) (ss : List (List UInt8)), e = .returned v ∧ S ss ∧ w'.ownsRow w.heap.size 9 1 v ss.length (ss.map encStr) ∧ (v = .slice none 0 0 ↔ ss = []) ∧ Below w.heap.size w w' :=
  (callsIn_wide (n := 4)).1 (AnyZ.collect_in Tryz.collect7 Fence.wide 4 trivial trivial rfl (by omega) g lb trivial eg S N (Nat.le_trans hN (by decide)) (by omega) w hseq)
 have HC := Lib.hid cC
 have HS : Hid (∀ (blk cap : Nat) (ss : List (List UInt8)) (W : World), Holds encStr W blk 0 ss.toArray → blk < W.heap.size → ss.length < 4611686018427387904 →
   Calls Tryz.prog 197 #[.slice (some ⟨blk, 0, none⟩) ss.length cap, .func (.func 151) #[] #[]] W fun e w' => e = .returned (.tuple #[]) ∧ ∃ n os, w' = grow (putRow encStr (Sort.ahead W n) blk 0 (ss.mergeSort fun x y => !(ltOf Lib.compareBytes) y x).toArray) os) := fun blk cap ss W hH hb hl => by
  have := Tryz.slices_SortFunc_total encStr (fun _ => rfl) Lib.compareBytes swo7 151 #[] blk 0 cap ss.toArray W (enters_of Tryz.func151 (by kernel_rfl) rfl) (cmp7 blk 0 _ W) hH hb (by simpa using hl) tot7
  simpa [sortWorld] using this
 have HS0 : Hid (∀ (cap : Nat) (W : World), Calls Tryz.prog 197 #[.slice none 0 cap, .func (.func 151) #[] #[]] W fun e w' => e = .returned (.tuple #[]) ∧ w' = W) := fun cap W => Tryz.slices_SortFunc_none (α := List UInt8) none cap _ W
 clear cC hseq
 go_enter Tryz.func149, Tryz.ntmps149
 go_wp2_with fail
 with_reducible refine HC.out.mono ?_
 rintro e W ⟨v, ss, rfl, hS, hrow, hnil, hb⟩
 have hln := hSN _ hS
 have HSS := Lib.hid hS
 have HNL := Lib.hid hnil
 have HB := Lib.hid hb
 have HR := Lib.hid hrow
 clear hS hnil hb HC
 rcases hrow.2 with ⟨rfl, hz⟩ | ⟨gb, cap, cur, rfl, hbase, hgb, r1, r2, r3, r4⟩
 ·
  have hss : ss = [] := List.eq_nil_of_length_eq_zero hz
  subst hss
  clear hrow hz hln hSN
  go_wp2_with (go_at_call 197; (with_reducible refine (HS0.out _ _).mono ?_); rintro e w' ⟨rfl, rfl⟩)
  go_ret
  exact ⟨.slice none 0 0, [], rfl, HSS.out, by simpa using HR.out, by simp, HB.out⟩
 ·
  have hH : Holds encStr W gb 0 ss.toArray := holds_of_block hgb (by simpa using r4)
  have hgl : gb < W.heap.size := (Array.getElem?_eq_some_iff.1 hgb).1
  have cS := Lib.hid (HS.out gb cap ss W hH hgl (by omega))
  have HF : Hid (∀ n os, (grow (putRow encStr (Sort.ahead W n) gb 0 (ss.mergeSort fun x y => !(ltOf Lib.compareBytes) y x).toArray) os).ownsRow w.heap.size 9 1 (.slice (some ⟨gb, 0, none⟩) ss.length cap) ss.length ((ss.mergeSort (fun x y => !(ltOf Lib.compareBytes) y x)).map encStr) ∧
    Below w.heap.size w (grow (putRow encStr (Sort.ahead W n) gb 0 (ss.mergeSort fun x y => !(ltOf Lib.compareBytes) y x).toArray) os)) := fun n os =>
   ⟨ownsRow_sorted (by simp) hbase hgb r1 r2 r3, HB.out.grown (grownBy_sorted _) HB.out.size (fun j hj => by cases hj; exact hbase)⟩
  clear hrow hbase hgb r1 r2 r3 r4 hH hgl HR HB HS HS0
  generalize hts : (ss.mergeSort fun x y => !(ltOf Lib.compareBytes) y x) = ts at cS HF
  have HT := Lib.hid hts
  clear hts hln hSN
  generalize hn : ss.length = n at *
  go_wp2_with (go_at_call 197; (with_reducible refine cS.out.mono ?_); rintro e w' ⟨rfl, nn, os, rfl⟩)
  go_ret
  subst hn
  refine ⟨_, ss, rfl, HSS.out, ?_, HNL.out, (HF.out nn os).2⟩
  rw [HT.out]
  exact (HF.out nn os).1


end Go.Proofs.YtmcomnocpibiiaaGreatDoor
namespace Go.Proofs.YtmcomnocpibiiaaGreatDoor
open Go.ChangeShapes Go.WideShapes Go.ChangeAt Go.RowKit Go.Deep

structure Act7 where
 kd : Nat
 nm : ByteArray
 hs : ByteArray
def Act7.cells (t : Act7) : List Value := [.int .u8 (t.kd : Int), .string t.nm, .string t.hs]


section
variable {H : Type} {enc : TypeId × Value → H} {W : World} {base : Nat} {sp : Nat → Bool} {hd : Bool} {fuel : Nat}
end
end Go.Proofs.YtmcomnocpibiiaaGreatDoor
namespace Go.Proofs.YtmcomnocpibiiaaGreatDoor
open Go.Maps

structure Mirror9 (L M : Row7) : Prop where
 rl : Rise7 L
 rm : Rise7 M
 iff : ∀ n a, (n, a) ∈ L ↔ (a, n) ∈ M

def hasO (L : Row7) (a : List UInt8) : Bool := L.any (fun p => p.2 == a)
def ownO (L : Row7) (a : List UInt8) : List UInt8 := match L.find? (fun p => p.2 == a) with | some p => p.1 | none => []

theorem rise_one {L : Row7} (h : Rise7 L) {n a b : List UInt8} (ha : (n, a) ∈ L) (hb : (n, b) ∈ L) : a = b := by
 have h1 := get_mem h ha
 have h2 := get_mem h hb
 exact h1.symm.trans h2
theorem hasE_mem {L : Row7} {n : List UInt8} (h : hasE L n = true) : (n, getE L n) ∈ L := by
 unfold hasE at h
 unfold getE
 obtain ⟨p, hp, e⟩ := List.any_eq_true.1 h
 cases hf : L.find? (fun p => p.1 == n) with
 | none => exact absurd e (by simpa using List.find?_eq_none.1 hf p hp)
 | some q =>
  have h1 := List.mem_of_find?_eq_some hf
  have h2 := List.find?_some hf
  have : q.1 = n := by simpa using h2
  rw [← this]; exact h1
theorem mem_hasE {L : Row7} {n a : List UInt8} (h : (n, a) ∈ L) : hasE L n = true := hasE_iff.2 ⟨_, h, rfl⟩
theorem getE_none {L : Row7} {n : List UInt8} (h : hasE L n = false) : getE L n = [] := by
 unfold getE
 cases hf : L.find? (fun p => p.1 == n) with
 | none => rfl
 | some q =>
  have h1 := List.mem_of_find?_eq_some hf
  have h2 := List.find?_some hf
  have : hasE L n = true := hasE_iff.2 ⟨q, h1, by simpa using h2⟩
  rw [h] at this; cases this
theorem hasO_mem {L : Row7} {a : List UInt8} (h : hasO L a = true) : (ownO L a, a) ∈ L := by
 unfold hasO at h
 unfold ownO
 obtain ⟨p, hp, e⟩ := List.any_eq_true.1 h
 cases hf : L.find? (fun p => p.2 == a) with
 | none => exact absurd e (by simpa using List.find?_eq_none.1 hf p hp)
 | some q =>
  have h1 := List.mem_of_find?_eq_some hf
  have h2 := List.find?_some hf
  have : q.2 = a := by simpa using h2
  rw [← this]; exact h1
theorem mem_hasO {L : Row7} {n a : List UInt8} (h : (n, a) ∈ L) : hasO L a = true := List.any_eq_true.2 ⟨_, h, by simp⟩
theorem ownO_none {L : Row7} {a : List UInt8} (h : hasO L a = false) : ownO L a = [] := by
 unfold ownO
 cases hf : L.find? (fun p => p.2 == a) with
 | none => rfl
 | some q =>
  have h1 := List.mem_of_find?_eq_some hf
  have h2 := List.find?_some hf
  have : hasO L a = true := List.any_eq_true.2 ⟨q, h1, h2⟩
  rw [h] at this; cases this

theorem mem_putE {L : Row7} {k v : List UInt8} {q : List UInt8 × List UInt8} : q ∈ putE L k v ↔ q = (k, v) ∨ q ∈ L ∧ q.1 ≠ k := by
 unfold putE
 rw [mem_ins, mem_del]
theorem rise_ext {L M : Row7} (hl : Rise7 L) (hm : Rise7 M) (h : ∀ q, q ∈ L ↔ q ∈ M) : L = M := by
 have hnl : L.Nodup := hl.imp fun {a b} hb e => by subst e; rw [before_irrefl] at hb; cases hb
 have hnm : M.Nodup := hm.imp fun {a b} hb e => by subst e; rw [before_irrefl] at hb; cases hb
 have hp : L.Perm M := (List.perm_ext_iff_of_nodup hnl hnm).2 h
 refine List.Perm.eq_of_pairwise (le := fun (p q : List UInt8 × List UInt8) => bytesBefore p.1 q.1 = true) ?_ hl hm hp
 intro a b _ _ h1 h2
 rw [before_anti h1] at h2; cases h2

section
variable {L M : Row7}
theorem Mirror9.nil : Mirror9 [] [] := ⟨List.Pairwise.nil, List.Pairwise.nil, by simp⟩
theorem Mirror9.length (h : Mirror9 L M) : M.length = L.length := by
 have hnl : L.Nodup := h.rl.imp fun {a b} hb e => by subst e; rw [before_irrefl] at hb; cases hb
 have hnm : M.Nodup := h.rm.imp fun {a b} hb e => by subst e; rw [before_irrefl] at hb; cases hb
 have hn2 : (L.map fun p => (p.2, p.1)).Nodup := by
  unfold List.Nodup
  rw [List.pairwise_map]
  refine hnl.imp fun {a b} hb e => hb ?_
  injection e with e1 e2
  exact Prod.ext e2 e1
 have : (L.map fun p => (p.2, p.1)).Perm M := (List.perm_ext_iff_of_nodup hn2 hnm).2 fun q => by
  rw [List.mem_map]
  constructor
  ·
   rintro ⟨p, hp, rfl⟩
   exact (h.iff p.1 p.2).1 hp
  ·
   intro hq
   exact ⟨(q.2, q.1), (h.iff q.2 q.1).2 hq, rfl⟩
 have := this.length_eq
 rw [List.length_map] at this
 exact this.symm
theorem Mirror9.has (h : Mirror9 L M) (a : List UInt8) : hasE M a = hasO L a := by
 cases hh : hasO L a
 ·
  cases hm : hasE M a
  ·
   rfl
  ·
   have := mem_hasO ((h.iff _ _).2 (hasE_mem hm))
   rw [hh] at this; cases this
 ·
  exact mem_hasE ((h.iff _ _).1 (hasO_mem hh))
theorem Mirror9.get (h : Mirror9 L M) (a : List UInt8) : getE M a = ownO L a := by
 cases hh : hasO L a
 ·
  rw [ownO_none hh, getE_none (by rw [h.has, hh])]
 ·
  exact get_mem h.rm ((h.iff _ _).1 (hasO_mem hh))
theorem Mirror9.one (h : Mirror9 L M) {n k a : List UInt8} (h1 : (n, a) ∈ L) (h2 : (k, a) ∈ L) : n = k := rise_one h.rm ((h.iff _ _).1 h1) ((h.iff _ _).1 h2)
theorem Mirror9.own (h : Mirror9 L M) {n a : List UInt8} (h1 : (n, a) ∈ L) : ownO L a = n := h.one (hasO_mem (mem_hasO h1)) h1
theorem Mirror9.del (h : Mirror9 L M) {n : List UInt8} (hn : hasE L n = true) : Mirror9 (delE L n) (delE M (getE L n)) := by
 have hm := hasE_mem hn
 refine ⟨rise_del h.rl n, rise_del h.rm _, fun k b => ?_⟩
 rw [mem_del, mem_del]
 constructor
 ·
  rintro ⟨h1, h2⟩
  refine ⟨(h.iff _ _).1 h1, fun e => h2 ?_⟩
  have e' : b = getE L n := e
  subst e'
  exact h.one h1 hm
 ·
  rintro ⟨h1, h2⟩
  have h1' := (h.iff _ _).2 h1
  refine ⟨h1', fun e => h2 ?_⟩
  have e' : k = n := e
  subst e'
  exact rise_one h.rl h1' hm
theorem Mirror9.put (h : Mirror9 L M) {n a : List UInt8} (hn : hasE L n = false) (ha : hasO L a = false) : Mirror9 (putE L n a) (putE M a n) := by
 refine ⟨rise_put h.rl n a, rise_put h.rm a n, fun k b => ?_⟩
 rw [mem_putE, mem_putE]
 constructor
 ·
  rintro (e | ⟨h1, h2⟩)
  ·
   injection e with e1 e2; subst e1; subst e2; exact .inl rfl
  ·
   refine .inr ⟨(h.iff _ _).1 h1, fun e => ?_⟩
   have e' : b = a := e
   subst e'
   have := mem_hasO h1
   rw [ha] at this; cases this
 ·
  rintro (e | ⟨h1, h2⟩)
  ·
   injection e with e1 e2; subst e1; subst e2; exact .inl rfl
  ·
   have h1' := (h.iff _ _).2 h1
   refine .inr ⟨h1', fun e => ?_⟩
   have e' : k = n := e
   subst e'
   have := mem_hasE h1'
   rw [hn] at this; cases this
end

theorem hasE_del (L : Row7) (n : List UInt8) : hasE (delE L n) n = false := by
 cases h : hasE (delE L n) n
 ·
  rfl
 ·
  obtain ⟨p, hp, e⟩ := hasE_iff.1 h
  exact absurd e (mem_del.1 hp).2
theorem hasE_del_ne {L : Row7} {n k : List UInt8} (h : k ≠ n) : hasE (delE L n) k = hasE L k := by
 cases hh : hasE L k
 ·
  cases hd : hasE (delE L n) k
  ·
   rfl
  ·
   obtain ⟨p, hp, e⟩ := hasE_iff.1 hd
   have : hasE L k = true := hasE_iff.2 ⟨p, (mem_del.1 hp).1, e⟩
   rw [hh] at this; cases this
 ·
  obtain ⟨p, hp, e⟩ := hasE_iff.1 hh
  exact hasE_iff.2 ⟨p, mem_del.2 ⟨hp, fun e' => h (e.symm.trans e')⟩, e⟩
theorem put_del {L : Row7} (h : Rise7 L) (n a : List UInt8) : putE (delE L n) n a = putE L n a := by
 refine rise_ext (rise_put (rise_del h n) n a) (rise_put h n a) fun q => ?_
 rw [mem_putE, mem_putE, mem_del]
 constructor
 ·
  rintro (e | ⟨⟨h1, _⟩, h2⟩)
  ·
   exact .inl e
  ·
   exact .inr ⟨h1, h2⟩
 ·
  rintro (e | ⟨h1, h2⟩)
  ·
   exact .inl e
  ·
   exact .inr ⟨⟨h1, h2⟩, h2⟩
theorem get_put {L : Row7} (h : Rise7 L) (n a : List UInt8) : getE (putE L n a) n = a := get_mem (rise_put h n a) (mem_putE.2 (.inl rfl))
end Go.Proofs.YtmcomnocpibiiaaGreatDoor
namespace Go.Proofs.YtmcomnocpibiiaaGreatDoor
open Go.RowKit Go.Maps

theorem foldC_again9 (x : UInt8) : foldC (foldC x) = foldC x := by
 cases h : inR 65 90 x with
 | false => rw [foldC_miss h, foldC_miss h]
 | true =>
  obtain ⟨e, h1, h2⟩ := foldC_hit h
  refine foldC_miss ?_
  unfold inR
  have : ¬ (foldC x).toNat ≤ 90 := by omega
  rw [decide_eq_false this, Bool.and_false]
theorem fold5_again9 (l : List UInt8) : fold5 (fold5 l) = fold5 l := by
 unfold fold5
 rw [List.map_map]
 exact List.map_congr_left fun x _ => foldC_again9 x
theorem mail5_fold {l m : List UInt8} (h : fold5 l = fold5 m) : mail5 l = mail5 m := by
 unfold mail5 cut5
 have hl : l.length = m.length := by rw [← fold5_length l, h, fold5_length]
 rw [h, hl]
theorem mail5_again9 (l : List UInt8) : mail5 (fold5 l) = mail5 l := mail5_fold (fold5_again9 l)
theorem mail5_len {l : List UInt8} (h : mail5 l = true) : l.length ≤ 20 := by
 unfold mail5 at h
 simp only [Bool.and_eq_true, decide_eq_true_eq] at h
 exact h.1.1.1
theorem mail5_nil : mail5 [] = false := by decide
theorem name5_len {n : List UInt8} (h : name5 n = true) : n.length ≤ 12 := by
 unfold name5 pref5 at h
 simp only [Bool.and_eq_true, decide_eq_true_eq] at h
 exact h.1.1.2.1

def May9 (x : List UInt8 × List UInt8) : Prop := name5 x.1 = true ∧ mail5 x.2 = true ∧ fold5 x.2 = x.2
theorem May9.of {n m : List UInt8} (hn : name5 n = true) (hm : mail5 m = true) : May9 (n, fold5 m) := ⟨hn, by rw [mail5_again9]; exact hm, fold5_again9 m⟩

structure MapOr9 (w : World) (p : Option Nat) (L : Row7) : Prop where
 nil : p = none → L = []
 map : ∀ b, p = some b → Map7 w b L
theorem MapOr9.turns {w w' : World} {p : Option Nat} {L : Row7} {S : Nat → Prop} (h : MapOr9 w p L) (ht : Turns S w w') (hp : ∀ b, p = some b → ¬ S b) : MapOr9 w' p L :=
 ⟨h.nil, fun b hb => (h.map b hb).kept (ht.block b (h.map b hb).lt (hp b hb))⟩

section
variable {w : World} {p : Option Nat} {L : Row7}
theorem look9 (h : MapOr9 w p L) (s : ByteArray) (hs : s.size ≤ maxLen) :
  (Instr.lookup 138 (.map p) (.string s) true).run Tryz.prog w = .ok (.tuple #[.string (tx7 (getE L s.data.toList)), .bool (hasE L s.data.toList)]) w := by
 cases p with
 | none =>
  have hL := h.nil rfl
  subst hL
  have := Maps.look_nil (P := Tryz.prog) (w := w) (t := 138) true keyed7 Tryz.underlying138 (zero7 w) (key7 s hs)
  exact this
 | some b =>
  obtain ⟨v, ps, hrun, hv⟩ := (h.map b rfl).look_ok keyed7 Tryz.underlying138 (zero7 w) (plainElem_string (H := Unit) Tryz.underlying9 (s := ⟨#[]⟩) (by decide)) (key7 s hs)
  obtain ⟨c, rfl, hc, _⟩ := plainElem_string_inv Tryz.underlying9 hv
  rw [hrun, datE_has]
  have e : (datE L).atKey (.string s.data.toList) (.lit (.string [])) = .lit (.string (getE L s.data.toList)) := datE_at L _
  have hc' : (datE L).atKey (.string s.data.toList) (.lit (.string [])) = .lit (.string c.data.toList) := congrArg Prod.fst hc
  rw [e] at hc'
  have : getE L s.data.toList = c.data.toList := by simpa using hc'
  rw [this, tx7_back]
theorem drop9 (h : MapOr9 w p L) (s : ByteArray) (hs : s.size ≤ maxLen) (ty : TypeId) :
  ∃ w', (Builtin.delete_ #[138, 9] ty #[.map p, .string s]).run Tryz.prog w = .ok (.tuple #[]) w' ∧ MapOr9 w' p (delE L s.data.toList) ∧ Turns (fun i => p = some i) w w' := by
 cases p with
 | none =>
  have hL := h.nil rfl
  subst hL
  exact ⟨w, Maps.drop_nil keyed7 Tryz.underlying138 (key7 s hs) ty, ⟨fun _ => rfl, (fun _ h => nomatch h)⟩, Turns.refl _ w⟩
 | some b =>
  obtain ⟨w', hrun, hown, ht⟩ := (h.map b rfl).drop keyed7 Tryz.underlying138 (key7 s hs) ty
  rw [datE_del] at hown
  exact ⟨w', hrun, ⟨(fun h => nomatch h), fun b' hb' => by cases hb'; exact Map7.of hown⟩, (Turns.refl _ w).grown ht.grown (fun k hk _ => hk.symm ▸ rfl)⟩
theorem nilmap9 (w : World) (p : Option Nat) : (binOp .eql 138 (.map p) (.map none)).run Tryz.prog w = .ok (.bool p.isNone) w :=
 run_eql_map_nil_sl w 138 _ _ p Tryz.underlying138
end

def Half9 (W : World) (b : Nat) (L' : Row7) (st val : Value) : Prop :=
 ∃ o, W.heap[b]? = some o ∧ ∀ W2 : World, W2.heap[b]? = some o → ∃ W3, (Instr.entryStore 138 (.map (some b)) st val).run Tryz.prog W2 = .ok () W3 ∧ Map7 W3 b L' ∧ W2.mapTurned W3 b
theorem half9 {W : World} {b : Nat} {L : Row7} (h : Map7 W b L) (hf : L.length ≤ 1000) (k v : ByteArray) (hk : k.size ≤ maxLen) (hv : v.size ≤ maxLen) :
  ∃ (v0 : Value) (st : Nat) (W1 : World), (Instr.mapEntry 138 (.map (some b)) (.string k)).run Tryz.prog W = .ok (.tuple #[v0, .int .i64 (st : Int)]) W1 ∧ Half9 W1 b (putE L k.data.toList v.data.toList) (.int .i64 (st : Int)) (.string v) ∧ W.mapTurned W1 b := by
 obtain ⟨w', hrun, hown, _⟩ := h.store keyed7 Tryz.underlying138 (Nat.lt_of_le_of_lt hf (by decide)) (key7 k hk) (plainElem_string (H := Unit) Tryz.underlying9 hv)
 rw [datE_put] at hown
 have hM := Map7.of hown
 obtain ⟨es, clock, hb, F, _, _⟩ := h
 obtain ⟨v0, st, es1, clock1, h1, _, h3⟩ := WideElems.entry_then_store (t := 138) (WideMaps.string_law Tryz.underlying9) Tryz.underlying138 (z := .string ⟨#[]⟩) (fun u => zero7 u) hb F (key7 k hk)
 refine ⟨v0, st, _, h1, ⟨_, ChangeMaps.heap_setBlock_same hb _, fun W2 hW2 => ?_⟩, ⟨es, clock, es1, clock1, hb, rfl⟩⟩
 obtain ⟨es', clock', r1, r2⟩ := h3 W2 (.string v) hW2
 rw [hrun] at r2
 injection r2 with _ r2
 refine ⟨_, r1, hM.kept ?_, ⟨es1, clock1, es', clock', hW2, rfl⟩⟩
 rw [ChangeMaps.heap_setBlock_same hW2, r2, ChangeMaps.heap_setBlock_same hb]
theorem Half9.kept {W W' : World} {b : Nat} {L' : Row7} {st val : Value} (h : Half9 W b L' st val) (hb : W'.heap[b]? = W.heap[b]?) : Half9 W' b L' st val := by
 obtain ⟨o, h1, h2⟩ := h
 exact ⟨o, hb.trans h1, h2⟩

structure Idx9 (w : World) (B : Nat) (p q : Option Nat) (L M : Row7) : Prop where
 blk : w.heap[B]? = some (.cells #[.map p, .map q] 140 (0, 0))
 mapp : MapOr9 w p L
 mapq : MapOr9 w q M
 both : p.isSome = q.isSome
 apt : ∀ b c, p = some b → q = some c → b ≠ c
 mir : Mirror9 L M
 few : L.length ≤ 100
 all : ∀ x ∈ L, May9 x

section
variable {w w' : World} {B : Nat} {p q : Option Nat} {L M : Row7}
theorem Idx9.lt (h : Idx9 w B p q L M) : B < w.heap.size := (Array.getElem?_eq_some_iff.1 h.blk).1
theorem Idx9.plt (h : Idx9 w B p q L M) : ∀ b, p = some b → b < w.heap.size := fun b hb => (h.mapp.map b hb).lt
theorem Idx9.qlt (h : Idx9 w B p q L M) : ∀ b, q = some b → b < w.heap.size := fun b hb => (h.mapq.map b hb).lt
theorem Idx9.cell0 (h : Idx9 w B p q L M) : w.cell? ⟨B, 0, none⟩ = some (.map p) := by simp [World.cell?, h.blk]
theorem Idx9.cell1 (h : Idx9 w B p q L M) : w.cell? ⟨B, 1, none⟩ = some (.map q) := by simp [World.cell?, h.blk]
theorem Idx9.frozen0 (h : Idx9 w B p q L M) : w.frozen? ⟨B, 0, none⟩ = false := by simp [World.frozen?, h.blk]
theorem Idx9.frozen1 (h : Idx9 w B p q L M) : w.frozen? ⟨B, 1, none⟩ = false := by simp [World.frozen?, h.blk]
theorem map_ne_cells {b : Nat} {L : Row7} {c : Array Value} {T : TypeId} {fr : Nat × Nat} (hm : Map7 w b L) (hB : w.heap[B]? = some (.cells c T fr)) : b ≠ B := fun e => by
 obtain ⟨es, clock, h1, _⟩ := hm
 subst e
 rw [hB] at h1
 cases h1
theorem Idx9.pne (h : Idx9 w B p q L M) : ∀ b, p = some b → b ≠ B := fun b hb => map_ne_cells (h.mapp.map b hb) h.blk
theorem Idx9.qne (h : Idx9 w B p q L M) : ∀ b, q = some b → b ≠ B := fun b hb => map_ne_cells (h.mapq.map b hb) h.blk
theorem Idx9.turns {S : Nat → Prop} (h : Idx9 w B p q L M) (ht : Turns S w w') (hB : ¬ S B) (hp : ∀ b, p = some b → ¬ S b) (hq : ∀ b, q = some b → ¬ S b) : Idx9 w' B p q L M :=
 ⟨(ht.block B h.lt hB).trans h.blk, h.mapp.turns ht hp, h.mapq.turns ht hq, h.both, h.apt, h.mir, h.few, h.all⟩
theorem Idx9.later (h : Idx9 w B p q L M) (hb : Below w.heap.size w w') : Idx9 w' B p q L M := h.turns (Turns.of_below hb (fun _ => False)) (fun f => f) (fun _ _ f => f) (fun _ _ f => f)
theorem Idx9.rise (h : Idx9 w B p q L M) : Rise7 L := h.mir.rl
end

def Turn9 (B : Nat) (p q : Option Nat) (w w' : World) : Prop := Turns (fun i => i = B ∨ p = some i ∨ q = some i) w w'
def Goes9 (w : World) (B : Nat) (p q : Option Nat) (L' : Row7) (w' : World) : Prop :=
 ∃ p' q' M', Idx9 w' B p' q' L' M' ∧ (∀ b, p' = some b → p = some b ∨ w.heap.size ≤ b) ∧ (∀ b, q' = some b → q = some b ∨ w.heap.size ≤ b) ∧ Turn9 B p q w w'
theorem Goes9.still {w w' : World} {B : Nat} {p q : Option Nat} {L M : Row7} (h : Idx9 w B p q L M) (hb : Below w.heap.size w w') : Goes9 w B p q L w' :=
 ⟨p, q, M, h.later hb, fun _ e => .inl e, fun _ e => .inl e, Turns.of_below hb _⟩
theorem Goes9.ahead {w w1 w' : World} {B : Nat} {p q : Option Nat} {L' : Row7} (hb : Below w.heap.size w w1) (h : Goes9 w1 B p q L' w') : Goes9 w B p q L' w' := by
 obtain ⟨p', q', M', hd, hp, hq, ht⟩ := h
 exact ⟨p', q', M', hd, fun b e => (hp b e).imp id (fun h => Nat.le_trans hb.size h), fun b e => (hq b e).imp id (fun h => Nat.le_trans hb.size h), (Turns.of_below hb _).next ht (fun i _ h => h)⟩
theorem Goes9.behind {w w1 w' : World} {B : Nat} {p q : Option Nat} {L' : Row7} (h : Goes9 w B p q L' w1) (hb : Below w1.heap.size w1 w') : Goes9 w B p q L' w' := by
 obtain ⟨p', q', M', hd, hp, hq, ht⟩ := h
 exact ⟨p', q', M', hd.later hb, hp, hq, Turns.next ht (Turns.of_below hb (fun _ => False)) (fun _ _ f => f.elim)⟩

set_option maxRecDepth 100000 in
theorem new9_calls (w : World) : Calls Tryz.prog 43 #[] w fun e w' => e = .returned (.pointer (some ⟨w.heap.size, 0, none⟩)) ∧ w' = w.alloc (.cells #[.map none, .map none] 140) := by
 go_enter Tryz.func43, Tryz.ntmps43
 go_wp2
 go_ret
 exact ⟨rfl, rfl⟩
theorem idx9_new (w : World) : Idx9 (w.alloc (.cells #[.map none, .map none] 140)) w.heap.size none none [] [] :=
 ⟨(MapKept.heap_alloc w _).1, ⟨fun _ => rfl, (fun _ h => nomatch h)⟩, ⟨fun _ => rfl, (fun _ h => nomatch h)⟩, rfl, (fun _ _ h => nomatch h), Mirror9.nil, by simp, (fun _ h => nomatch h)⟩

set_option maxRecDepth 100000 in
theorem of9_calls (B : Nat) (p q : Option Nat) (L M : Row7) (s : ByteArray) (w : World) (h : Idx9 w B p q L M) (hs : s.size ≤ maxLen) :
  Calls Tryz.prog 140 #[.pointer (some ⟨B, 0, none⟩), .string s] w fun e w' => e = .returned (.tuple #[.string (tx7 (getE L s.data.toList)), .bool (hasE L s.data.toList)]) ∧ w' = w := by
 have hc := h.cell0
 have hl := look9 h.mapp s hs
 generalize hasE L s.data.toList = r at *
 generalize tx7 (getE L s.data.toList) = g at *
 clear h hs
 go_enter Tryz.func140, Tryz.ntmps140
 go_wp2
 go_ret2
 exact ⟨rfl, rfl⟩


end Go.Proofs.YtmcomnocpibiiaaGreatDoor
namespace Go.Proofs.YtmcomnocpibiiaaGreatDoor
open Go.RowKit Go.Maps

theorem SeqG.move9 {cs : List Nat} {St St' : Nat → World → Prop} {L : Nat → Bool} {W W' : World} (h : SeqG cs St L W) (q i : Nat) (hq : q < cs.length) (hi : cs.getD q 0 = i) (hL : L i = false) (hp : q = 0 ∨ L (cs.getD (q - 1) 0) = true)
  (hnd : (List.range cs.length).all (fun r => r == q || cs.getD r 0 != i) = true) (hS : St' (q + 1) W') : SeqG cs St' (updL L i) W' := by
 obtain ⟨m, hm, hs, hr⟩ := h
 have h1 : ¬ q < m := by have := hr q hq; rw [hi, hL] at this; simpa using this.symm
 have h2 : m = q := by
  rcases hp with rfl | hp
  ·
   omega
  ·
   have := hr (q - 1) (by omega)
   rw [hp] at this
   have : q - 1 < m := by simpa using this.symm
   omega
 subst h2
 have hX : SeqG cs (fun k V => k = m + 1 → St' k V) L W' := ⟨m, hm, fun e => absurd e (by omega), hr⟩
 obtain ⟨k, hk, hs', hr'⟩ := hX.next m i hq hi hL hp hnd (fun _ => hS)
 have hkm : k = m + 1 := by
  have e1 := hr' m hq
  rw [hi, show updL L i i = true from if_pos rfl] at e1
  have e1' : m < k := by simpa using e1.symm
  by_cases hlt : m + 1 < cs.length
  ·
   have h3 := List.all_eq_true.1 hnd (m + 1) (List.mem_range.2 hlt)
   have e2 := hr' (m + 1) hlt
   have hne : cs.getD (m + 1) 0 ≠ i := by
    have e1 : ((m + 1) == m) = false := by simp
    rw [e1, Bool.false_or, bne_iff_ne] at h3
    exact h3
   rw [show updL L i (cs.getD (m + 1) 0) = L (cs.getD (m + 1) 0) from if_neg hne, hr (m + 1) hlt] at e2
   have : ¬ m + 1 < k := by
    have e3 : decide (m + 1 < m) = false := by simp
    rw [e3] at e2
    simpa using e2.symm
   omega
  ·
   omega
 subst hkm
 exact ⟨m + 1, hk, hs' rfl, hr'⟩
theorem SeqG.done9 {cs : List Nat} {St : Nat → World → Prop} {L : Nat → Bool} {W : World} (h : SeqG cs St L W) (hall : ∀ r, r < cs.length → L (cs.getD r 0) = true) : St cs.length W := by
 obtain ⟨m, hm, hs, hr⟩ := h
 by_cases e : m = cs.length
 ·
  rw [← e]; exact hs
 ·
  have h1 := hr m (by omega)
  rw [hall m (by omega)] at h1
  simp at h1

set_option maxRecDepth 100000 in
theorem drop9_calls (B : Nat) (p q : Option Nat) (L M : Row7) (s : ByteArray) (w : World) (h : Idx9 w B p q L M) (hs : s.size ≤ maxLen) :
  Calls Tryz.prog 90 #[.pointer (some ⟨B, 0, none⟩), .string s] w fun e w' => e = .returned (.bool (hasE L s.data.toList)) ∧ (∃ M', Idx9 w' B p q (delE L s.data.toList) M') ∧ Turn9 B p q w w' := by
 have hl := look9 h.mapp s hs
 have c0 := h.cell0
 cases hh : hasE L s.data.toList with
 | false =>
  rw [hh] at hl
  have HF : Hid ((∃ M', Idx9 w B p q (delE L s.data.toList) M') ∧ Turn9 B p q w w) := ⟨⟨M, by rw [del_of_not hh]; exact h⟩, Turns.refl _ w⟩
  clear h
  generalize tx7 (getE L s.data.toList) = g at *
  go_enter Tryz.func90, Tryz.ntmps90
  go_wp2
  go_ret
  exact ⟨rfl, HF.out⟩
 | true =>
  rw [hh] at hl
  have hmem := hasE_mem hh
  have hmay := h.all _ hmem
  have hgs : (tx7 (getE L s.data.toList)).size ≤ maxLen := by
   show (getE L s.data.toList).toArray.size ≤ _
   rw [List.size_toArray]; exact Nat.le_trans (mail5_len hmay.2.1) (by decide)
  obtain ⟨w1, r1, m1, t1⟩ := drop9 h.mapp s hs 0
  have hB1 : w1.heap[B]? = _ := (t1.block B h.lt (fun e => h.pne _ e rfl)).trans h.blk
  have c1 : w1.cell? ⟨B, 1, none⟩ = some (.map q) := by simp [World.cell?, hB1]
  have q1 : MapOr9 w1 q M := h.mapq.turns t1 (fun b hb e => h.apt b b e hb rfl)
  obtain ⟨w2, r2, m2, t2⟩ := drop9 q1 (tx7 (getE L s.data.toList)) hgs 0
  have ht : Turn9 B p q w w2 := (t1.mono (fun i _ e => .inr (.inl e))).next t2 (fun i _ e => .inr (.inr e))
  have HF : Hid ((∃ M', Idx9 w2 B p q (delE L s.data.toList) M') ∧ Turn9 B p q w w2) := by
   rw [tx7_list] at m2
   refine ⟨⟨_, ⟨(t2.block B (Nat.lt_of_lt_of_le h.lt t1.size) (fun e => h.qne _ e rfl)).trans hB1, m1.turns t2 (fun b hb e => h.apt b b hb e rfl), m2, h.both, h.apt, h.mir.del hh, ?_, fun x hx => h.all x (mem_del.1 hx).1⟩⟩, ht⟩
   exact Nat.le_trans (List.length_filter_le _ _) h.few
  clear h hB1 q1 m1 m2 t1 t2 ht hmem hmay hgs
  generalize tx7 (getE L s.data.toList) = g at *
  go_enter Tryz.func90, Tryz.ntmps90
  go_wp2
  go_ret
  exact ⟨rfl, HF.out⟩

def YPut9 (B b c : Nat) (n a : ByteArray) : Nat → Value → Prop
 | 2, v => v = .pointer (some ⟨B, 0, none⟩)
 | 3, v => v = .map (some b)
 | 4, v => v = .string n
 | 7, v => v = .pointer (some ⟨B, 1, none⟩)
 | 8, v => v = .map (some c)
 | 9, v => v = .string a
 | 10, v => v = .string a
 | 11, v => v = .string n
 | _, v => v = .pointer (some ⟨B, 0, none⟩)
def StPut9 (b c : Nat) (L M L' M' : Row7) (n a : ByteArray) (x12 x15 : Value) : Nat → World → Prop
 | 0, W => Map7 W b L ∧ Map7 W c M
 | 1, W => (∃ (v0 : Value) (st : Nat), x12 = .tuple #[v0, .int .i64 (st : Int)] ∧ Half9 W b L' (.int .i64 (st : Int)) (.string a)) ∧ Map7 W c M
 | 2, W => Map7 W b L' ∧ Map7 W c M
 | 3, W => Map7 W b L' ∧ ∃ (v0 : Value) (st : Nat), x15 = .tuple #[v0, .int .i64 (st : Int)] ∧ Half9 W c M' (.int .i64 (st : Int)) (.string n)
 | _, W => Map7 W b L' ∧ Map7 W c M'
structure Put9 (w1 : World) (B b c : Nat) (L M L' M' : Row7) (n a : ByteArray) (D : Nat → Bool) (x : Nat → Value) (W : World) : Prop where
 y : ∀ j, j < 12 → D j = true → YPut9 B b c n a j (x j)
 e12 : D 12 = true → ∃ (v0 : Value) (st : Nat), x 12 = .tuple #[v0, .int .i64 (st : Int)]
 e15 : D 15 = true → ∃ (v0 : Value) (st : Nat), x 15 = .tuple #[v0, .int .i64 (st : Int)]
 e13 : D 13 = true → D 12 = true ∧ ∃ v0, x 12 = .tuple #[v0, x 13]
 e16 : D 16 = true → D 15 = true ∧ ∃ v0, x 15 = .tuple #[v0, x 16]
 t : Turns (fun i => i = b ∨ i = c) w1 W
 s : SeqG [12, 14, 15, 17] (StPut9 b c L M L' M' n a (x 12) (x 15)) D W

section
variable {w1 : World} {B b c : Nat} {L M L' M' : Row7} {n a : ByteArray} {D : Nat → Bool} {x : Nat → Value} {W W' : World}
theorem Put9.start (x : Nat → Value) (hb : Map7 w1 b L) (hc : Map7 w1 c M) : Put9 w1 B b c L M L' M' n a (fun _ => false) x w1.drew :=
 ⟨(fun _ _ h => nomatch h), (fun h => nomatch h), (fun h => nomatch h), (fun h => nomatch h), (fun h => nomatch h), (Turns.refl _ w1).drew, SeqG.start ⟨hb, hc⟩⟩
theorem Put9.quiet (h : Put9 w1 B b c L M L' M' n a D x W) (i : Nat) (v : Value) (hi : [12, 14, 15, 17].contains i = false) (hy : i < 12 → YPut9 B b c n a i v)
  (h13 : i = 13 → D 12 = true ∧ ∃ v0, x 12 = .tuple #[v0, v]) (h16 : i = 16 → D 15 = true ∧ ∃ v0, x 15 = .tuple #[v0, v]) : Put9 w1 B b c L M L' M' n a (updL D i) (upd x i v) W := by
 have n12 : 12 ≠ i := fun e => by subst e; simp at hi
 have n15 : 15 ≠ i := fun e => by subst e; simp at hi
 have u12 : upd x i v 12 = x 12 := if_neg n12
 have u15 : upd x i v 15 = x 15 := if_neg n15
 have d12 : updL D i 12 = D 12 := if_neg n12
 have d15 : updL D i 15 = D 15 := if_neg n15
 refine ⟨fun j hj hd => ?_, fun hd => ?_, fun hd => ?_, fun hd => ?_, fun hd => ?_, h.t, ?_⟩
 ·
  by_cases e : j = i
  ·
   subst e; rw [show upd x j v j = v from if_pos rfl]; exact hy hj
  ·
   rw [show upd x i v j = x j from if_neg e]; rw [show updL D i j = D j from if_neg e] at hd; exact h.y j hj hd
 ·
  rw [u12]; rw [d12] at hd; exact h.e12 hd
 ·
  rw [u15]; rw [d15] at hd; exact h.e15 hd
 ·
  rw [u12, d12]
  by_cases e : 13 = i
  ·
   subst e; rw [show upd x 13 v 13 = v from if_pos rfl]; exact h13 rfl
  ·
   rw [show upd x i v 13 = x 13 from if_neg e]; rw [show updL D i 13 = D 13 from if_neg e] at hd; exact h.e13 hd
 ·
  rw [u15, d15]
  by_cases e : 16 = i
  ·
   subst e; rw [show upd x 16 v 16 = v from if_pos rfl]; exact h16 rfl
  ·
   rw [show upd x i v 16 = x 16 from if_neg e]; rw [show updL D i 16 = D 16 from if_neg e] at hd; exact h.e16 hd
 ·
  rw [u12, u15]; exact h.s.same i hi (fun _ h => h)
theorem turned9 {W W' : World} {b i : Nat} (ht : W.mapTurned W' b) (hne : i ≠ b) : W'.heap[i]? = W.heap[i]? := turned_cells ht (fun e => hne e.symm)
theorem Put9.turn (h : Put9 w1 B b c L M L' M' n a D x W) {k : Nat} (hk : k = b ∨ k = c) (ht : W.mapTurned W' k) : Turns (fun i => i = b ∨ i = c) w1 W' :=
 h.t.grown ht.grown (fun j hj _ => by cases hj; exact hk)
theorem Put9.y2 (h : Put9 w1 B b c L M L' M' n a D x W) (i : Nat) (v : Value) (hi : ¬ i < 12) : ∀ j, j < 12 → updL D i j = true → YPut9 B b c n a j (upd x i v j) := fun j hj hd => by
 have e : j ≠ i := fun e => hi (e ▸ hj)
 rw [show upd x i v j = x j from if_neg e]; rw [show updL D i j = D j from if_neg e] at hd; exact h.y j hj hd
theorem Put9.at12 (h : Put9 w1 B b c L M L' M' n a D x W) (hD : D 12 = false) {v0 : Value} {st : Nat} (hH : Half9 W' b L' (.int .i64 (st : Int)) (.string a)) (ht : W.mapTurned W' b) (hbc : b ≠ c) :
  Put9 w1 B b c L M L' M' n a (updL D 12) (upd x 12 (.tuple #[v0, .int .i64 (st : Int)])) W' := by
 have u12 : upd x 12 (.tuple #[v0, .int .i64 (st : Int)]) 12 = .tuple #[v0, .int .i64 (st : Int)] := if_pos rfl
 have hs := h.s.at_ 0 (by decide) hD (.inl rfl)
 refine ⟨h.y2 12 _ (by decide), fun _ => ⟨v0, st, u12⟩, fun hd => h.e15 hd, fun hd => ?_, fun hd => h.e16 hd, h.turn (.inl rfl) ht, ?_⟩
 ·
  have := (h.e13 hd).1
  rw [hD] at this; cases this
 ·
  refine h.s.move9 0 12 (by decide) rfl hD (.inl rfl) (by decide) ⟨⟨v0, st, u12, hH⟩, hs.2.kept (turned9 ht hbc.symm)⟩
theorem Put9.at14 (h : Put9 w1 B b c L M L' M' n a D x W) (hD : D 14 = false) (h12 : D 12 = true) {v : Value} (hm : Map7 W' b L') (ht : W.mapTurned W' b) (hbc : b ≠ c) :
  Put9 w1 B b c L M L' M' n a (updL D 14) (upd x 14 v) W' := by
 have hs := h.s.at_ 1 (by decide) hD (.inr h12)
 refine ⟨h.y2 14 _ (by decide), fun hd => h.e12 hd, fun hd => h.e15 hd, fun hd => h.e13 hd, fun hd => h.e16 hd, h.turn (.inl rfl) ht, ?_⟩
 exact h.s.move9 1 14 (by decide) rfl hD (.inr h12) (by decide) ⟨hm, hs.2.kept (turned9 ht hbc.symm)⟩
theorem Put9.at15 (h : Put9 w1 B b c L M L' M' n a D x W) (hD : D 15 = false) (h14 : D 14 = true) {v0 : Value} {st : Nat} (hH : Half9 W' c M' (.int .i64 (st : Int)) (.string n)) (ht : W.mapTurned W' c) (hbc : b ≠ c) :
  Put9 w1 B b c L M L' M' n a (updL D 15) (upd x 15 (.tuple #[v0, .int .i64 (st : Int)])) W' := by
 have u15 : upd x 15 (.tuple #[v0, .int .i64 (st : Int)]) 15 = .tuple #[v0, .int .i64 (st : Int)] := if_pos rfl
 have hs := h.s.at_ 2 (by decide) hD (.inr h14)
 refine ⟨h.y2 15 _ (by decide), fun hd => h.e12 hd, fun _ => ⟨v0, st, u15⟩, fun hd => h.e13 hd, fun hd => ?_, h.turn (.inr rfl) ht, ?_⟩
 ·
  have := (h.e16 hd).1
  rw [hD] at this; cases this
 ·
  exact h.s.move9 2 15 (by decide) rfl hD (.inr h14) (by decide) ⟨hs.1.kept (turned9 ht hbc), ⟨v0, st, u15, hH⟩⟩
theorem Put9.at17 (h : Put9 w1 B b c L M L' M' n a D x W) (hD : D 17 = false) (h15 : D 15 = true) {v : Value} (hm : Map7 W' c M') (ht : W.mapTurned W' c) (hbc : b ≠ c) :
  Put9 w1 B b c L M L' M' n a (updL D 17) (upd x 17 v) W' := by
 have hs := h.s.at_ 3 (by decide) hD (.inr h15)
 refine ⟨h.y2 17 _ (by decide), fun hd => h.e12 hd, fun hd => h.e15 hd, fun hd => h.e13 hd, fun hd => h.e16 hd, h.turn (.inr rfl) ht, ?_⟩
 exact h.s.move9 3 17 (by decide) rfl hD (.inr h15) (by decide) ⟨hs.1.kept (turned9 ht hbc), hm⟩
end

theorem blk_set0 {W : World} {B : Nat} {u v : Value} {T : TypeId} (v' : Value) (h : W.heap[B]? = some (.cells #[u, v] T (0, 0))) : (W.setCell ⟨B, 0, none⟩ v').heap[B]? = some (.cells #[v', v] T (0, 0)) := by
 obtain ⟨hlt, hk⟩ := Array.getElem?_eq_some_iff.1 h
 show (W.heap.modify B _)[B]? = _
 rw [Array.getElem?_eq_getElem (by rw [Array.size_modify]; exact hlt), Array.getElem_modify_self, hk]
 rfl
theorem blk_set1 {W : World} {B : Nat} {u v : Value} {T : TypeId} (v' : Value) (h : W.heap[B]? = some (.cells #[u, v] T (0, 0))) : (W.setCell ⟨B, 1, none⟩ v').heap[B]? = some (.cells #[u, v'] T (0, 0)) := by
 obtain ⟨hlt, hk⟩ := Array.getElem?_eq_some_iff.1 h
 show (W.heap.modify B _)[B]? = _
 rw [Array.getElem?_eq_getElem (by rw [Array.size_modify]; exact hlt), Array.getElem_modify_self, hk]
 rfl

set_option maxRecDepth 100000 in
set_option maxHeartbeats 4000000 in
theorem put9_calls (B : Nat) (p q : Option Nat) (L M : Row7) (n a : ByteArray) (w : World) (h : Idx9 w B p q L M) (hm : May9 (n.data.toList, a.data.toList)) (hfree : hasO (delE L n.data.toList) a.data.toList = false) (hf : (putE L n.data.toList a.data.toList).length ≤ 100) :
  Calls Tryz.prog 180 #[.pointer (some ⟨B, 0, none⟩), .string n, .string a] w fun e w' => e = .returned (.tuple #[]) ∧ Goes9 w B p q (putE L n.data.toList a.data.toList) w' := by
 have hn' : n.size ≤ maxLen := by have := name5_len hm.1; rw [size_list] at this; exact Nat.le_trans this (by decide)
 have ha' : a.size ≤ maxLen := by have := mail5_len hm.2.1; rw [size_list] at this; exact Nat.le_trans this (by decide)
 have HD := Lib.hid (drop9_calls B p q L M n w h hn')
 have hall : ∀ y ∈ putE L n.data.toList a.data.toList, May9 y := fun y hy => by
  rcases mem_putE.1 hy with rfl | ⟨hy, _⟩
  ·
   exact hm
  ·
   exact h.all y hy
 have hpd := put_del h.rise n.data.toList a.data.toList
 have HPD : Hid (putE (delE L n.data.toList) n.data.toList a.data.toList = putE L n.data.toList a.data.toList) := hpd
 have HF : Hid ((delE L n.data.toList).length ≤ 1000) := Nat.le_trans (List.length_filter_le _ _) (Nat.le_trans h.few (by decide))
 have HALL := Lib.hid hall
 have HLN := Lib.hid hf
 have hlt0 := h.lt
 have hlp := h.plt
 have hlq := h.qlt
 clear h hm hall hpd hf
 go_enter Tryz.func180, Tryz.ntmps180
 go_wp2_with fail
 with_reducible refine HD.out.mono ?_
 rintro e w1 ⟨rfl, ⟨M1, hi⟩, ht⟩
 have HI := Lib.hid hi
 have HT := Lib.hid ht
 have hfr : hasO (delE L n.data.toList) a.data.toList = false := hfree
 have hmir := hi.mir.put (hasE_del L n.data.toList) hfr
 rw [HPD.out] at hmir
 have HMIR := Lib.hid hmir
 have HG : Hid (M1.length ≤ 1000) := by show _ ≤ _; rw [hi.mir.length]; exact HF.out
 have hq := nilmap9 w1 p
 have hc0 := hi.cell0
 clear ht hmir hfr HD
 cases p with
 | none =>
  have hqn : q = none := by
   have := hi.both
   cases q with
   | none => rfl
   | some c => cases this
  subst hqn
  have hL1 := hi.mapp.nil rfl
  have hM1 := hi.mapq.nil rfl
  have f0 := hi.frozen0
  have f1 := hi.frozen1
  have hc1 := hi.cell1
  have hblk := hi.blk
  have hblt := hi.lt
  have hmm := @run_makeMap Tryz.prog
  have hs0 : ((w1.setCell ⟨B, 0, none⟩ (.map (some w1.heap.size))).setCell ⟨B, 1, none⟩ (.map (some (w1.heap.size + 1)))).heap.size = w1.heap.size := by simp [World.setCell]
  have hb0 := blk_set1 (.map (some (w1.heap.size + 1))) (blk_set0 (.map (some w1.heap.size)) hblk)
  have hb2 : (((w1.setCell ⟨B, 0, none⟩ (.map (some w1.heap.size))).setCell ⟨B, 1, none⟩ (.map (some (w1.heap.size + 1)))).alloc (.map #[] 0)).heap[B]? = _ := (Below.heap_alloc _ _ B (by omega)).trans hb0
  have hb3 : ((((w1.setCell ⟨B, 0, none⟩ (.map (some w1.heap.size))).setCell ⟨B, 1, none⟩ (.map (some (w1.heap.size + 1)))).alloc (.map #[] 0)).alloc (.map #[] 0)).heap[B]? = _ := (Below.heap_alloc _ _ B (by simp; omega)).trans hb2
  have m1 := World.ownsMap_made (H := Unit) ((w1.setCell ⟨B, 0, none⟩ (.map (some w1.heap.size))).setCell ⟨B, 1, none⟩ (.map (some (w1.heap.size + 1)))) Tryz.prog 9 (plainElem Tryz.prog 9)
  have m2 := World.ownsMap_made (H := Unit) (((w1.setCell ⟨B, 0, none⟩ (.map (some w1.heap.size))).setCell ⟨B, 1, none⟩ (.map (some (w1.heap.size + 1)))).alloc (.map #[] 0)) Tryz.prog 9 (plainElem Tryz.prog 9)
  have m1' := m1.alloc (.map #[] 0)
  rw [hs0] at m1'
  rw [World.size_alloc, hs0] at m2
  have e0 : (.map [] : DataW Unit) = datE [] := rfl
  rw [e0] at m1' m2
  have hT2 : Turns (fun i => i = B) w1 ((((w1.setCell ⟨B, 0, none⟩ (.map (some w1.heap.size))).setCell ⟨B, 1, none⟩ (.map (some (w1.heap.size + 1)))).alloc (.map #[] 0)).alloc (.map #[] 0)) := ((((Turns.refl (fun i => i = B) w1).setCell (p := ⟨B, 0, none⟩) (fun _ => rfl) _).setCell (p := ⟨B, 1, none⟩) (fun _ => rfl) _).alloc _).alloc _
  have hB1 := Map7.of (L := []) m1'
  rw [← hL1] at hB1
  have hB2 := Map7.of (L := []) m2
  rw [← hM1] at hB2
  have HB1 := Lib.hid hB1
  have HB2 := Lib.hid hB2
  clear hB1 hB2
  have hz : ((((w1.setCell ⟨B, 0, none⟩ (.map (some w1.heap.size))).setCell ⟨B, 1, none⟩ (.map (some (w1.heap.size + 1)))).alloc (.map #[] 0)).alloc (.map #[] 0)).heap.size = w1.heap.size + 2 := by rw [World.size_alloc, World.size_alloc, hs0]
  clear m1 m2 m1' e0 hb2 hb0 hs0 hi hlp hlq
  go_wp2
  clear hc0 hc1 hq f0 f1 hmm hblk
  generalize ((((w1.setCell ⟨B, 0, none⟩ (.map (some w1.heap.size))).setCell ⟨B, 1, none⟩ (.map (some (w1.heap.size + 1)))).alloc (.map #[] 0)).alloc (.map #[] 0)) = w2 at *
  have hsz := HT.out.size
  generalize hc : w1.heap.size + 1 = c at *
  generalize hb : w1.heap.size = b at *
  have hbc : b ≠ c := by omega
  have HBL : Hid (B < w2.heap.size) := by show _ < _; omega
  have HBN : Hid (¬ (B = b ∨ B = c)) := by show ¬ _; omega
  have HC0 : Hid (w2.cell? ⟨B, 0, none⟩ = some (.map (some b))) := by show _ = _; simp [World.cell?, hb3]
  have HC1 : Hid (w2.cell? ⟨B, 1, none⟩ = some (.map (some c))) := by show _ = _; simp [World.cell?, hb3]
  have HEND : Hid (∀ W, Turns (fun i => i = b ∨ i = c) w2 W → Map7 W b (putE L n.data.toList a.data.toList) → Map7 W c (putE M1 a.data.toList n.data.toList) → Goes9 w B none none (putE L n.data.toList a.data.toList) W) := fun W hW h1 h2 => by
   refine ⟨some b, some c, _, ⟨(hW.block B HBL.out HBN.out).trans hb3, ⟨(fun h => nomatch h), fun b' e => by cases e; exact h1⟩, ⟨(fun h => nomatch h), fun b' e => by cases e; exact h2⟩, rfl, (fun _ _ e1 e2 => by cases e1; cases e2; exact hbc), HMIR.out, HLN.out, HALL.out⟩, (fun _ e => .inr (by cases e; omega)), (fun _ e => .inr (by cases e; omega)), ?_⟩
   exact (HT.out.next hT2 (fun i _ e => .inl e)).next hW (fun i hi e => by omega)
  clear HI HT HMIR HLN HALL hT2 hb3 hL1 hM1
  refine wp_region_gen (by kernel_rfl) (Put9 w2 B b c (delE L n.data.toList) M1 (putE L n.data.toList a.data.toList) (putE M1 a.data.toList n.data.toList) n a) ?F ?hF (by kernel_rfl) (by kernel_rfl) (fun x => Put9.start x HB1.out HB2.out) ?step ?fin
  case hF =>
   intro x
   simp only [List.map_cons, List.map_nil, putL, Act.put, List.setIfInBounds_toArray, List.set_cons_zero, List.set_cons_succ, Nat.zero_add, Nat.reduceAdd]
   exact rfl
  case step =>
   rw [← HPD.out]
   refine ⟨?_, ?_, ?_, ?_, ?_, ?_, ?_, ?_, ?_, ?_, ?_, ?_, ?_, ?_, ?_, ?_, ?_, ?_, trivial⟩
   ·
    intro D x W hi hd hI K hK
    clear hd
    go_simp
    exact hK _ _ (hI.quiet 0 _ rfl (fun _ => rfl) (fun h => absurd h (by decide)) (fun h => absurd h (by decide)))
   ·
    intro D x W hi hd hI K hK
    have h0 : x 0 = _ := hI.y 0 (by decide) (hd 0 rfl)
    clear hd
    simp only [h0] at hK
    go_simp
    exact hK _ _ (hI.quiet 1 _ rfl (fun _ => rfl) (fun h => absurd h (by decide)) (fun h => absurd h (by decide)))
   ·
    intro D x W hi hd hI K hK
    have h1 : x 1 = _ := hI.y 1 (by decide) (hd 1 rfl)
    clear hd
    simp only [h1] at hK
    go_simp
    exact hK _ _ (hI.quiet 2 _ rfl (fun _ => rfl) (fun h => absurd h (by decide)) (fun h => absurd h (by decide)))
   ·
    intro D x W hi hd hI K hK
    have h2 : x 2 = _ := hI.y 2 (by decide) (hd 2 rfl)
    have c := (hI.t.cell (p := ⟨B, 0, none⟩) HBL.out HBN.out).trans HC0.out
    clear hd
    simp only [h2] at hK
    go_simp
    exact hK _ _ (hI.quiet 3 _ rfl (fun _ => rfl) (fun h => absurd h (by decide)) (fun h => absurd h (by decide)))
   ·
    intro D x W hi hd hI K hK
    clear hd
    go_simp
    exact hK _ _ (hI.quiet 4 _ rfl (fun _ => rfl) (fun h => absurd h (by decide)) (fun h => absurd h (by decide)))
   ·
    intro D x W hi hd hI K hK
    clear hd
    go_simp
    exact hK _ _ (hI.quiet 5 _ rfl (fun _ => rfl) (fun h => absurd h (by decide)) (fun h => absurd h (by decide)))
   ·
    intro D x W hi hd hI K hK
    have h5 : x 5 = _ := hI.y 5 (by decide) (hd 5 rfl)
    clear hd
    simp only [h5] at hK
    go_simp
    exact hK _ _ (hI.quiet 6 _ rfl (fun _ => rfl) (fun h => absurd h (by decide)) (fun h => absurd h (by decide)))
   ·
    intro D x W hi hd hI K hK
    have h6 : x 6 = _ := hI.y 6 (by decide) (hd 6 rfl)
    clear hd
    simp only [h6] at hK
    go_simp
    exact hK _ _ (hI.quiet 7 _ rfl (fun _ => rfl) (fun h => absurd h (by decide)) (fun h => absurd h (by decide)))
   ·
    intro D x W hi hd hI K hK
    have h7 : x 7 = _ := hI.y 7 (by decide) (hd 7 rfl)
    have c := (hI.t.cell (p := ⟨B, 1, none⟩) HBL.out HBN.out).trans HC1.out
    clear hd
    simp only [h7] at hK
    go_simp
    exact hK _ _ (hI.quiet 8 _ rfl (fun _ => rfl) (fun h => absurd h (by decide)) (fun h => absurd h (by decide)))
   ·
    intro D x W hi hd hI K hK
    clear hd
    go_simp
    exact hK _ _ (hI.quiet 9 _ rfl (fun _ => rfl) (fun h => absurd h (by decide)) (fun h => absurd h (by decide)))
   ·
    intro D x W hi hd hI K hK
    clear hd
    go_simp
    exact hK _ _ (hI.quiet 10 _ rfl (fun _ => rfl) (fun h => absurd h (by decide)) (fun h => absurd h (by decide)))
   ·
    intro D x W hi hd hI K hK
    clear hd
    go_simp
    exact hK _ _ (hI.quiet 11 _ rfl (fun _ => rfl) (fun h => absurd h (by decide)) (fun h => absurd h (by decide)))
   ·
    intro D x W hi hd hI K hK
    have h3 : x 3 = _ := hI.y 3 (by decide) (hd 3 rfl)
    have h4 : x 4 = _ := hI.y 4 (by decide) (hd 4 rfl)
    obtain ⟨v0, st, W1, hrun, hH, hT⟩ := half9 (hI.s.at_ 0 (by decide) hi (.inl rfl)).1 HF.out n a hn' ha'
    clear hd
    simp only [h3, h4] at hK
    go_simp
    exact hK _ _ (hI.at12 hi hH hT hbc)
   ·
    intro D x W hi hd hI K hK
    have hp := hd 12 rfl
    obtain ⟨v0, st, h12⟩ := hI.e12 hp
    clear hd
    simp only [h12] at hK
    go_simp
    exact hK _ _ (hI.quiet 13 _ rfl (fun h => absurd h (by decide)) (fun _ => ⟨hp, v0, by rw [h12]⟩) (fun h => absurd h (by decide)))
   ·
    intro D x W hi hd hI K hK
    have h3 : x 3 = _ := hI.y 3 (by decide) (hd 3 rfl)
    have h10 : x 10 = _ := hI.y 10 (by decide) (hd 10 rfl)
    obtain ⟨⟨v0, st, e12, hH⟩, hM⟩ := hI.s.at_ 1 (by decide) hi (.inr (hd 12 rfl))
    obtain ⟨_, v1, e13⟩ := hI.e13 (hd 13 rfl)
    have h13 : x 13 = .int .i64 (st : Int) := (by rw [e12] at e13; simpa using e13.symm : v1 = v0 ∧ x 13 = _).2
    obtain ⟨o, ho, hst⟩ := hH
    obtain ⟨W3, hrun, hm3, hT⟩ := hst W ho
    have hd12 := hd 12 rfl
    clear hd e13 e12 hst
    simp only [h3, h13, h10] at hK
    go_simp
    exact hK undef _ (hI.at14 hi hd12 hm3 hT hbc)
   ·
    intro D x W hi hd hI K hK
    have h8 : x 8 = _ := hI.y 8 (by decide) (hd 8 rfl)
    have h9 : x 9 = _ := hI.y 9 (by decide) (hd 9 rfl)
    obtain ⟨v0, st, W1, hrun, hH, hT⟩ := half9 (hI.s.at_ 2 (by decide) hi (.inr (hd 14 rfl))).2 HG.out a n ha' hn'
    have hd14 := hd 14 rfl
    clear hd
    simp only [h8, h9] at hK
    go_simp
    exact hK _ _ (hI.at15 hi hd14 hH hT hbc)
   ·
    intro D x W hi hd hI K hK
    have hp := hd 15 rfl
    obtain ⟨v0, st, h15⟩ := hI.e15 hp
    clear hd
    simp only [h15] at hK
    go_simp
    exact hK _ _ (hI.quiet 16 _ rfl (fun h => absurd h (by decide)) (fun h => absurd h (by decide)) (fun _ => ⟨hp, v0, by rw [h15]⟩))
   ·
    intro D x W hi hd hI K hK
    have h8 : x 8 = _ := hI.y 8 (by decide) (hd 8 rfl)
    have h11 : x 11 = _ := hI.y 11 (by decide) (hd 11 rfl)
    obtain ⟨hM, v0, st, e15, hH⟩ := hI.s.at_ 3 (by decide) hi (.inr (hd 15 rfl))
    obtain ⟨_, v1, e16⟩ := hI.e16 (hd 16 rfl)
    have h16 : x 16 = .int .i64 (st : Int) := (by rw [e15] at e16; simpa using e16.symm : v1 = v0 ∧ x 16 = _).2
    obtain ⟨o, ho, hst⟩ := hH
    obtain ⟨W3, hrun, hm3, hT⟩ := hst W ho
    have hd15 := hd 15 rfl
    clear hd e16 e15 hst
    simp only [h8, h16, h11] at hK
    go_simp
    exact hK undef _ (hI.at17 hi hd15 hm3 hT hbc)
  case fin =>
   intro D x W hall hI
   have HZ := Lib.hid (HEND.out W hI.t (hI.s.done9 (fun r hr => hall _ (by simp at hr; rcases r with _ | _ | _ | _ | r <;> first | decide | omega))).1 (hI.s.done9 (fun r hr => hall _ (by simp at hr; rcases r with _ | _ | _ | _ | r <;> first | decide | omega))).2)
   clear hI hall
   go_end0
   exact ⟨rfl, HZ.out⟩
 | some b =>
  obtain ⟨c, rfl⟩ : ∃ c, q = some c := by
   have := hi.both
   cases q with
   | none => cases this
   | some c => exact ⟨c, rfl⟩
  have hbc := hi.apt b c rfl rfl
  have HB1 := Lib.hid (hi.mapp.map b rfl)
  have HB2 := Lib.hid (hi.mapq.map c rfl)
  have HBL := Lib.hid hi.lt
  have HBN : Hid (¬ (B = b ∨ B = c)) := fun e => e.elim (fun e => hi.pne b rfl e.symm) (fun e => hi.qne c rfl e.symm)
  have HC0 := Lib.hid hi.cell0
  have HC1 := Lib.hid hi.cell1
  have HEND : Hid (∀ W, Turns (fun i => i = b ∨ i = c) w1 W → Map7 W b (putE L n.data.toList a.data.toList) → Map7 W c (putE M1 a.data.toList n.data.toList) → Goes9 w B (some b) (some c) (putE L n.data.toList a.data.toList) W) := fun W hW h1 h2 => by
   refine ⟨some b, some c, _, ⟨(hW.block B HBL.out HBN.out).trans HI.out.blk, ⟨(fun h => nomatch h), fun b' e => by cases e; exact h1⟩, ⟨(fun h => nomatch h), fun b' e => by cases e; exact h2⟩, rfl, (fun _ _ e1 e2 => by cases e1; cases e2; exact hbc), HMIR.out, HLN.out, HALL.out⟩, (fun _ e => .inl e), (fun _ e => .inl e), ?_⟩
   exact HT.out.next hW (fun i _ e => e.elim (fun e => .inr (.inl (by rw [e]))) (fun e => .inr (.inr (by rw [e]))))
  clear hi HI HT HMIR HLN HALL hlp hlq hlt0
  go_wp2
  clear hc0 hq
  generalize w1 = w2 at *
  refine wp_region_gen (by kernel_rfl) (Put9 w2 B b c (delE L n.data.toList) M1 (putE L n.data.toList a.data.toList) (putE M1 a.data.toList n.data.toList) n a) ?F2 ?hF2 (by kernel_rfl) (by kernel_rfl) (fun x => Put9.start x HB1.out HB2.out) ?step2 ?fin2
  case hF2 =>
   intro x
   simp only [List.map_cons, List.map_nil, putL, Act.put, List.setIfInBounds_toArray, List.set_cons_zero, List.set_cons_succ, Nat.zero_add, Nat.reduceAdd]
   exact rfl
  case step2 =>
   rw [← HPD.out]
   refine ⟨?_, ?_, ?_, ?_, ?_, ?_, ?_, ?_, ?_, ?_, ?_, ?_, ?_, ?_, ?_, ?_, ?_, ?_, trivial⟩
   ·
    intro D x W hi hd hI K hK
    clear hd
    go_simp
    exact hK _ _ (hI.quiet 0 _ rfl (fun _ => rfl) (fun h => absurd h (by decide)) (fun h => absurd h (by decide)))
   ·
    intro D x W hi hd hI K hK
    have h0 : x 0 = _ := hI.y 0 (by decide) (hd 0 rfl)
    clear hd
    simp only [h0] at hK
    go_simp
    exact hK _ _ (hI.quiet 1 _ rfl (fun _ => rfl) (fun h => absurd h (by decide)) (fun h => absurd h (by decide)))
   ·
    intro D x W hi hd hI K hK
    have h1 : x 1 = _ := hI.y 1 (by decide) (hd 1 rfl)
    clear hd
    simp only [h1] at hK
    go_simp
    exact hK _ _ (hI.quiet 2 _ rfl (fun _ => rfl) (fun h => absurd h (by decide)) (fun h => absurd h (by decide)))
   ·
    intro D x W hi hd hI K hK
    have h2 : x 2 = _ := hI.y 2 (by decide) (hd 2 rfl)
    have c := (hI.t.cell (p := ⟨B, 0, none⟩) HBL.out HBN.out).trans HC0.out
    clear hd
    simp only [h2] at hK
    go_simp
    exact hK _ _ (hI.quiet 3 _ rfl (fun _ => rfl) (fun h => absurd h (by decide)) (fun h => absurd h (by decide)))
   ·
    intro D x W hi hd hI K hK
    clear hd
    go_simp
    exact hK _ _ (hI.quiet 4 _ rfl (fun _ => rfl) (fun h => absurd h (by decide)) (fun h => absurd h (by decide)))
   ·
    intro D x W hi hd hI K hK
    clear hd
    go_simp
    exact hK _ _ (hI.quiet 5 _ rfl (fun _ => rfl) (fun h => absurd h (by decide)) (fun h => absurd h (by decide)))
   ·
    intro D x W hi hd hI K hK
    have h5 : x 5 = _ := hI.y 5 (by decide) (hd 5 rfl)
    clear hd
    simp only [h5] at hK
    go_simp
    exact hK _ _ (hI.quiet 6 _ rfl (fun _ => rfl) (fun h => absurd h (by decide)) (fun h => absurd h (by decide)))
   ·
    intro D x W hi hd hI K hK
    have h6 : x 6 = _ := hI.y 6 (by decide) (hd 6 rfl)
    clear hd
    simp only [h6] at hK
    go_simp
    exact hK _ _ (hI.quiet 7 _ rfl (fun _ => rfl) (fun h => absurd h (by decide)) (fun h => absurd h (by decide)))
   ·
    intro D x W hi hd hI K hK
    have h7 : x 7 = _ := hI.y 7 (by decide) (hd 7 rfl)
    have c := (hI.t.cell (p := ⟨B, 1, none⟩) HBL.out HBN.out).trans HC1.out
    clear hd
    simp only [h7] at hK
    go_simp
    exact hK _ _ (hI.quiet 8 _ rfl (fun _ => rfl) (fun h => absurd h (by decide)) (fun h => absurd h (by decide)))
   ·
    intro D x W hi hd hI K hK
    clear hd
    go_simp
    exact hK _ _ (hI.quiet 9 _ rfl (fun _ => rfl) (fun h => absurd h (by decide)) (fun h => absurd h (by decide)))
   ·
    intro D x W hi hd hI K hK
    clear hd
    go_simp
    exact hK _ _ (hI.quiet 10 _ rfl (fun _ => rfl) (fun h => absurd h (by decide)) (fun h => absurd h (by decide)))
   ·
    intro D x W hi hd hI K hK
    clear hd
    go_simp
    exact hK _ _ (hI.quiet 11 _ rfl (fun _ => rfl) (fun h => absurd h (by decide)) (fun h => absurd h (by decide)))
   ·
    intro D x W hi hd hI K hK
    have h3 : x 3 = _ := hI.y 3 (by decide) (hd 3 rfl)
    have h4 : x 4 = _ := hI.y 4 (by decide) (hd 4 rfl)
    obtain ⟨v0, st, W1, hrun, hH, hT⟩ := half9 (hI.s.at_ 0 (by decide) hi (.inl rfl)).1 HF.out n a hn' ha'
    clear hd
    simp only [h3, h4] at hK
    go_simp
    exact hK _ _ (hI.at12 hi hH hT hbc)
   ·
    intro D x W hi hd hI K hK
    have hp := hd 12 rfl
    obtain ⟨v0, st, h12⟩ := hI.e12 hp
    clear hd
    simp only [h12] at hK
    go_simp
    exact hK _ _ (hI.quiet 13 _ rfl (fun h => absurd h (by decide)) (fun _ => ⟨hp, v0, by rw [h12]⟩) (fun h => absurd h (by decide)))
   ·
    intro D x W hi hd hI K hK
    have h3 : x 3 = _ := hI.y 3 (by decide) (hd 3 rfl)
    have h10 : x 10 = _ := hI.y 10 (by decide) (hd 10 rfl)
    obtain ⟨⟨v0, st, e12, hH⟩, hM⟩ := hI.s.at_ 1 (by decide) hi (.inr (hd 12 rfl))
    obtain ⟨_, v1, e13⟩ := hI.e13 (hd 13 rfl)
    have h13 : x 13 = .int .i64 (st : Int) := (by rw [e12] at e13; simpa using e13.symm : v1 = v0 ∧ x 13 = _).2
    obtain ⟨o, ho, hst⟩ := hH
    obtain ⟨W3, hrun, hm3, hT⟩ := hst W ho
    have hd12 := hd 12 rfl
    clear hd e13 e12 hst
    simp only [h3, h13, h10] at hK
    go_simp
    exact hK undef _ (hI.at14 hi hd12 hm3 hT hbc)
   ·
    intro D x W hi hd hI K hK
    have h8 : x 8 = _ := hI.y 8 (by decide) (hd 8 rfl)
    have h9 : x 9 = _ := hI.y 9 (by decide) (hd 9 rfl)
    obtain ⟨v0, st, W1, hrun, hH, hT⟩ := half9 (hI.s.at_ 2 (by decide) hi (.inr (hd 14 rfl))).2 HG.out a n ha' hn'
    have hd14 := hd 14 rfl
    clear hd
    simp only [h8, h9] at hK
    go_simp
    exact hK _ _ (hI.at15 hi hd14 hH hT hbc)
   ·
    intro D x W hi hd hI K hK
    have hp := hd 15 rfl
    obtain ⟨v0, st, h15⟩ := hI.e15 hp
    clear hd
    simp only [h15] at hK
    go_simp
    exact hK _ _ (hI.quiet 16 _ rfl (fun h => absurd h (by decide)) (fun h => absurd h (by decide)) (fun _ => ⟨hp, v0, by rw [h15]⟩))
   ·
    intro D x W hi hd hI K hK
    have h8 : x 8 = _ := hI.y 8 (by decide) (hd 8 rfl)
    have h11 : x 11 = _ := hI.y 11 (by decide) (hd 11 rfl)
    obtain ⟨hM, v0, st, e15, hH⟩ := hI.s.at_ 3 (by decide) hi (.inr (hd 15 rfl))
    obtain ⟨_, v1, e16⟩ := hI.e16 (hd 16 rfl)
    have h16 : x 16 = .int .i64 (st : Int) := (by rw [e15] at e16; simpa using e16.symm : v1 = v0 ∧ x 16 = _).2
    obtain ⟨o, ho, hst⟩ := hH
    obtain ⟨W3, hrun, hm3, hT⟩ := hst W ho
    have hd15 := hd 15 rfl
    clear hd e16 e15 hst
    simp only [h8, h16, h11] at hK
    go_simp
    exact hK undef _ (hI.at17 hi hd15 hm3 hT hbc)
  case fin2 =>
   intro D x W hall hI
   have HZ := Lib.hid (HEND.out W hI.t (hI.s.done9 (fun r hr => hall _ (by simp at hr; rcases r with _ | _ | _ | _ | r <;> first | decide | omega))).1 (hI.s.done9 (fun r hr => hall _ (by simp at hr; rcases r with _ | _ | _ | _ | r <;> first | decide | omega))).2)
   clear hI hall
   go_end0
   exact ⟨rfl, HZ.out⟩
end Go.Proofs.YtmcomnocpibiiaaGreatDoor
namespace Go.Proofs.YtmcomnocpibiiaaGreatDoor
open Go.RowKit Go.Maps Go.Shelf

theorem Goes9.after {w w1 w' : World} {B : Nat} {p q : Option Nat} {L' : Row7} (ht : Turn9 B p q w w1) (h : Goes9 w1 B p q L' w') : Goes9 w B p q L' w' := by
 obtain ⟨p', q', M', hd, hp, hq, hu⟩ := h
 exact ⟨p', q', M', hd, fun b e => (hp b e).imp id (fun h => Nat.le_trans ht.size h), fun b e => (hq b e).imp id (fun h => Nat.le_trans ht.size h), Turns.next ht hu (fun i _ h => h)⟩

def bad9 (L : Row7) (n a : List UInt8) : Bool := hasO L a && decide (ownO L a ≠ n)
def seE9 (L : Row7) (n m : List UInt8) : Int := if name5 n then (if m = [] then 0 else if mail5 m then (if bad9 L n (fold5 m) then 9 else 0) else 11) else 10
def seL9 (L : Row7) (n m : List UInt8) : Row7 := if seE9 L n m = 0 then (if m = [] then delE L n else putE L n (fold5 m)) else L

theorem free9 {L M : Row7} (h : Mirror9 L M) {n a : List UInt8} (hb : bad9 L n a = false) : hasO (delE L n) a = false := by
 cases hd : hasO (delE L n) a
 ·
  rfl
 ·
  obtain ⟨h1, h2⟩ := mem_del.1 (hasO_mem hd)
  have h3 : hasO L a = true := mem_hasO h1
  have h4 : ownO L a = ownO (delE L n) a := h.own h1
  unfold bad9 at hb
  rw [h3, Bool.true_and, decide_eq_false_iff_not] at hb
  have h5 : ownO L a = n := by
   by_cases e : ownO L a = n
   ·
    exact e
   ·
    exact absurd e hb
  exact absurd (h4.symm.trans h5) h2
theorem put_le9 {L : Row7} (hr : Rise7 L) (n a : List UInt8) : (putE L n a).length ≤ L.length + 1 := by
 rw [put_length hr]; split <;> omega
theorem fold9_list (l : List UInt8) : (ByteArray.mk (fold5 l).toArray).data.toList = fold5 l := by simp

set_option maxRecDepth 100000 in
set_option maxHeartbeats 2000000 in
theorem set9_calls (B : Nat) (p q : Option Nat) (L M : Row7) (n m : ByteArray) (w : World) (h : Idx9 w B p q L M) (hn : n.size ≤ 9223372036854775807) (hmz : m.size ≤ 9223372036854775807) (hl : L.length < 100) (h5 : Len5 w) :
  Calls Tryz.prog 179 #[.pointer (some ⟨B, 0, none⟩), .string n, .string m] w fun e w' => e = .returned (.int .i64 (seE9 L n.data.toList m.data.toList)) ∧ Goes9 w B p q (seL9 L n.data.toList m.data.toList) w' := by
 have hn' : n.size ≤ maxLen := Nat.le_trans hn (by decide)
 have HN := Lib.hid (Name_calls n w hn)
 have HI := Lib.hid h
 unfold seL9
 cases hb : name5 n.data.toList with
 | false =>
  rw [hb] at HN
  have HN2 : Hid (Calls Tryz.prog 65 #[.string n] w (Errs5 10 w)) := HN.out
  have e1 : seE9 L n.data.toList m.data.toList = 10 := by unfold seE9; rw [hb]; rfl
  rw [e1, if_neg (by decide)]
  clear HN hb h e1
  go_enter Tryz.func179, Tryz.ntmps179
  go_wp2_with fail
  with_reducible refine HN2.out.mono ?_
  rintro e w1 ⟨rfl, hb⟩
  have HB := Lib.hid hb
  clear hb HN2
  go_wp2
  go_ret
  exact ⟨rfl, Goes9.still HI.out HB.out⟩
 | true =>
  rw [hb] at HN
  have HN2 : Hid (Calls Tryz.prog 65 #[.string n] w (Errs5 0 w)) := HN.out
  have HNM := Lib.hid hb
  clear HN
  by_cases h0 : m.size = 0
  ·
   obtain rfl : m = ⟨#[]⟩ := by
    obtain ⟨d⟩ := m
    obtain rfl : d = #[] := Array.eq_empty_of_size_eq_zero h0
    rfl
   have e1 : seE9 L n.data.toList (ByteArray.mk #[]).data.toList = 0 := by unfold seE9; rw [hb]; rfl
   rw [e1, if_pos rfl, if_pos (by rfl)]
   have HD : Hid (∀ W, Idx9 W B p q L M → Calls Tryz.prog 90 #[.pointer (some ⟨B, 0, none⟩), .string n] W fun e w' => e = .returned (.bool (hasE L n.data.toList)) ∧ (∃ M', Idx9 w' B p q (delE L n.data.toList) M') ∧ Turn9 B p q W w') := fun W hW => drop9_calls B p q L M n W hW hn'
   clear hb h e1 hmz
   generalize hasE L n.data.toList = r at *
   go_enter Tryz.func179, Tryz.ntmps179
   go_wp2_with fail
   with_reducible refine HN2.out.mono ?_
   rintro e w1 ⟨rfl, hb⟩
   have HB := Lib.hid hb
   have HD1 := Lib.hid (HD.out w1 (HI.out.later hb))
   clear hb HN2 HD
   go_wp2_with fail
   with_reducible refine HD1.out.mono ?_
   rintro e w2 ⟨rfl, ⟨M2, hi⟩, ht⟩
   have HF : Hid (Goes9 w B p q (delE L n.data.toList) w2) := Goes9.ahead HB.out ⟨p, q, M2, hi, (fun _ e => .inl e), (fun _ e => .inl e), ht⟩
   clear hi ht HD1
   go_wp2
   go_ret
   exact ⟨rfl, HF.out⟩
  ·
   have hne : ¬ m.toList = [] := fun e => h0 (by rw [← size_list, ← ByteArray.toList_eq, e]; rfl)
   have hne1 : ¬ m.data.toList = [] := fun e => h0 (by rw [← size_list, e]; rfl)
   have hne2 : m.toList.isEmpty = false := by simpa using hne
   have HM : Hid (∀ W, Len5 W → Calls Tryz.prog 143 #[.string m] W (Mails5 (mail5 m.data.toList) (mailT m.data.toList) W)) := fun W hW => mail_calls m W hmz hW
   have H5 := Lib.hid h5
   cases hc : mail5 m.data.toList with
   | false =>
    have e1 : seE9 L n.data.toList m.data.toList = 11 := by unfold seE9; rw [hb, if_pos rfl, if_neg hne1, hc]; rfl
    rw [e1, if_neg (by decide)]
    unfold mailT at HM
    rw [hc] at HM
    have HM2 : Hid (∀ W, Len5 W → Calls Tryz.prog 143 #[.string m] W fun e w' => e = .returned (.tuple #[.string ⟨#[]⟩, .int .i64 11]) ∧ Below W.heap.size W w') := HM.out
    clear HM hb h e1 hmz hc h5 hne1
    go_enter Tryz.func179, Tryz.ntmps179
    go_wp2_with fail
    with_reducible refine HN2.out.mono ?_
    rintro e w1 ⟨rfl, hb⟩
    have HB := Lib.hid hb
    have HM1 := Lib.hid (HM2.out w1 (H5.out.later hb))
    clear hb HN2 HM2
    go_wp2_with fail
    with_reducible refine HM1.out.mono ?_
    rintro e w2 ⟨rfl, hb⟩
    have HF := Lib.hid (below_next HB.out hb)
    clear hb HM1
    go_wp2
    go_ret
    exact ⟨rfl, Goes9.still HI.out HF.out⟩
   | true =>
    unfold mailT at HM
    rw [hc] at HM
    have HM2 : Hid (∀ W, Len5 W → Calls Tryz.prog 143 #[.string m] W fun e w' => e = .returned (.tuple #[.string ⟨(fold5 m.data.toList).toArray⟩, .int .i64 0]) ∧ Below W.heap.size W w') := HM.out
    have hfz : (ByteArray.mk (fold5 m.data.toList).toArray).size ≤ maxLen := by
     show (fold5 m.data.toList).toArray.size ≤ _
     rw [List.size_toArray, fold5_length, size_list]; exact Nat.le_trans hmz (by decide)
    have HLK : Hid (∀ W, Idx9 W B p q L M → (Instr.lookup 138 (.map q) (.string ⟨(fold5 m.data.toList).toArray⟩) true).run Tryz.prog W = .ok (.tuple #[.string (tx7 (ownO L (fold5 m.data.toList))), .bool (hasO L (fold5 m.data.toList))]) W) := fun W hW => by
     have := look9 hW.mapq ⟨(fold5 m.data.toList).toArray⟩ hfz
     rw [fold9_list, hW.mir.get, hW.mir.has] at this
     exact this
    have e0 : seE9 L n.data.toList m.data.toList = if bad9 L n.data.toList (fold5 m.data.toList) then 9 else 0 := by unfold seE9; rw [hb, if_pos rfl, if_neg hne1, hc, if_pos rfl]
    have HP : Hid (bad9 L n.data.toList (fold5 m.data.toList) = false → ∀ W, Below w.heap.size w W → Calls Tryz.prog 180 #[.pointer (some ⟨B, 0, none⟩), .string n, .string ⟨(fold5 m.data.toList).toArray⟩] W fun e w' => e = .returned (.tuple #[]) ∧ Goes9 w B p q (putE L n.data.toList (fold5 m.data.toList)) w') := fun hbd W hW => by
     have hfr := free9 h.mir hbd
     have := put9_calls B p q L M n ⟨(fold5 m.data.toList).toArray⟩ W (h.later hW) (by rw [fold9_list]; exact May9.of hb hc) (by rw [fold9_list]; exact hfr) (by rw [fold9_list]; exact Nat.le_trans (put_le9 h.rise _ _) hl)
     rw [fold9_list] at this
     exact this.mono fun e w' ⟨he, hg⟩ => ⟨he, hg.ahead hW⟩
    rw [if_neg hne1, e0]
    clear HM e0 hfz h5 hc
    cases hho : hasO L (fold5 m.data.toList) with
    | false =>
     have hbd : bad9 L n.data.toList (fold5 m.data.toList) = false := by unfold bad9; rw [hho]; rfl
     have HP2 := Lib.hid (HP.out hbd)
     rw [hbd, if_neg (by decide), if_pos rfl]
     rw [hho] at HLK
     clear HP hbd hho hb h hmz hne1
     generalize tx7 (ownO L (fold5 m.data.toList)) = o at *
     generalize (⟨(fold5 m.data.toList).toArray⟩ : ByteArray) = f at *
     go_enter Tryz.func179, Tryz.ntmps179
     go_wp2_with fail
     with_reducible refine HN2.out.mono ?_
     rintro e w1 ⟨rfl, hb⟩
     have HB := Lib.hid hb
     have HM1 := Lib.hid (HM2.out w1 (H5.out.later hb))
     clear hb HN2 HM2
     go_wp2_with fail
     with_reducible refine HM1.out.mono ?_
     rintro e w2 ⟨rfl, hb⟩
     have hb2 := below_next HB.out hb
     have l1 := HLK.out w2 (HI.out.later hb2)
     have c1 := (HI.out.later hb2).cell1
     have HP3 := Lib.hid (HP2.out w2 hb2)
     clear hb HM1 HLK HP2 hb2
     go_wp2_with fail
     with_reducible refine HP3.out.mono ?_
     rintro e w3 ⟨rfl, hg⟩
     have HG := Lib.hid hg
     clear hg HP3 l1 c1
     go_wp2
     go_ret
     exact ⟨rfl, HG.out⟩
    | true =>
     rw [hho] at HLK
     by_cases ho : ownO L (fold5 m.data.toList) = n.data.toList
     ·
      have hbd : bad9 L n.data.toList (fold5 m.data.toList) = false := by unfold bad9; rw [ho]; simp
      have HP2 := Lib.hid (HP.out hbd)
      rw [hbd, if_neg (by decide), if_pos rfl]
      rw [ho, tx7_back] at HLK
      have n1 : (n.toList != n.toList) = false := by simp
      have n2 : (n.toList == n.toList) = true := by simp
      clear HP hbd hho hb h hmz ho hne1
      generalize (⟨(fold5 m.data.toList).toArray⟩ : ByteArray) = f at *
      go_enter Tryz.func179, Tryz.ntmps179
      go_wp2_with fail
      with_reducible refine HN2.out.mono ?_
      rintro e w1 ⟨rfl, hb⟩
      have HB := Lib.hid hb
      have HM1 := Lib.hid (HM2.out w1 (H5.out.later hb))
      clear hb HN2 HM2
      go_wp2_with fail
      with_reducible refine HM1.out.mono ?_
      rintro e w2 ⟨rfl, hb⟩
      have hb2 := below_next HB.out hb
      have l1 := HLK.out w2 (HI.out.later hb2)
      have c1 := (HI.out.later hb2).cell1
      have HP3 := Lib.hid (HP2.out w2 hb2)
      clear hb HM1 HLK HP2 hb2
      go_wp2_with fail
      with_reducible refine HP3.out.mono ?_
      rintro e w3 ⟨rfl, hg⟩
      have HG := Lib.hid hg
      clear hg HP3 l1 c1
      go_wp2
      go_ret
      exact ⟨rfl, HG.out⟩
     ·
      have hbd : bad9 L n.data.toList (fold5 m.data.toList) = true := by unfold bad9; rw [hho, Bool.true_and, decide_eq_true ho]
      rw [hbd, if_pos rfl, if_neg (by decide)]
      have n1 : ¬ (tx7 (ownO L (fold5 m.data.toList))).toList = n.toList := by
       rw [Lib.toList_data, Lib.toList_data, tx7_list]; exact ho
      have n2 : ((tx7 (ownO L (fold5 m.data.toList))).toList == n.toList) = false := by simpa using n1
      clear HP hbd hho hb h hmz ho hne1
      generalize tx7 (ownO L (fold5 m.data.toList)) = o at *
      generalize (⟨(fold5 m.data.toList).toArray⟩ : ByteArray) = f at *
      go_enter Tryz.func179, Tryz.ntmps179
      go_wp2_with fail
      with_reducible refine HN2.out.mono ?_
      rintro e w1 ⟨rfl, hb⟩
      have HB := Lib.hid hb
      have HM1 := Lib.hid (HM2.out w1 (H5.out.later hb))
      clear hb HN2 HM2
      go_wp2_with fail
      with_reducible refine HM1.out.mono ?_
      rintro e w2 ⟨rfl, hb⟩
      have hb2 := below_next HB.out hb
      have l1 := HLK.out w2 (HI.out.later hb2)
      have c1 := (HI.out.later hb2).cell1
      have HF := Lib.hid hb2
      clear hb HM1 HLK hb2
      go_wp2
      go_ret
      exact ⟨rfl, Goes9.still HI.out HF.out⟩

end Go.Proofs.YtmcomnocpibiiaaGreatDoor
namespace Go.Proofs.YtmcomnocpibiiaaGreatDoor
open Go.RowKit Go.Maps Go.Shelf


def New9 (w W : World) (b : Nat) (p q : Option Nat) (L M : Row7) : Prop := Idx9 W b p q L M ∧ w.heap.size ≤ b ∧ (∀ c, p = some c → w.heap.size ≤ c) ∧ (∀ c, q = some c → w.heap.size ≤ c)
theorem New9.later {w W W' : World} {b : Nat} {p q : Option Nat} {L M : Row7} (h : New9 w W b p q L M) (hb : Below W.heap.size W W') : New9 w W' b p q L M := ⟨h.1.later hb, h.2⟩
theorem MapOr9.later {w w' : World} {p : Option Nat} {L : Row7} (h : MapOr9 w p L) (hb : Below w.heap.size w w') : MapOr9 w' p L := h.turns (Turns.of_below hb (fun _ => False)) (fun _ _ f => f)
theorem MapOr9.lt {w : World} {p : Option Nat} {L : Row7} (h : MapOr9 w p L) : ∀ b, p = some b → b < w.heap.size := fun b hb => (h.map b hb).lt

def YCp9 (B : Nat) (p q : Option Nat) : Nat → Value → Prop
 | 2, v => v = .pointer (some ⟨B, 0, none⟩)
 | 3, v => v = .map p
 | 7, v => v = .pointer (some ⟨B, 1, none⟩)
 | 8, v => v = .map q
 | 4, _ => True
 | 9, _ => True
 | 10, _ => True
 | 11, _ => True
 | 12, _ => True
 | _, v => v = .pointer (some ⟨B, 0, none⟩)
def Cl9 (w W : World) (L : Row7) (s : Bool) (p' : Option Nat) : Prop := MapOr9 W p' L ∧ p'.isSome = s ∧ ∀ b, p' = some b → w.heap.size ≤ b
structure Cp9 (w : World) (B : Nat) (p q : Option Nat) (L M : Row7) (D : Nat → Bool) (x : Nat → Value) (W : World) : Prop where
 b : Below w.heap.size w W
 y : ∀ {j : Nat}, D j = true → YCp9 B p q j (x j)
 y4 : D 4 = true → ∃ p', x 4 = .map p' ∧ Cl9 w W L p.isSome p'
 y9 : D 9 = true → ∃ q', x 9 = .map q' ∧ Cl9 w W M q.isSome q'
 ne : D 4 = true → D 9 = true → ∀ p' q', x 4 = .map p' → x 9 = .map q' → ∀ b c, p' = some b → q' = some c → b ≠ c
 y10 : D 10 = true → ∃ p' q', x 10 = .agg #[.map p', .map q'] ∧ Cl9 w W L p.isSome p' ∧ Cl9 w W M q.isSome q' ∧ ∀ b c, p' = some b → q' = some c → b ≠ c
 y11 : D 11 = true → ∃ b p' q', x 11 = .pointer (some ⟨b, 0, none⟩) ∧ New9 w W b p' q' L M
 y12 : D 12 = true → ∃ b p' q', x 12 = .pointer (some ⟨b, 0, none⟩) ∧ New9 w W b p' q' L M
theorem Cl9.later {w W W' : World} {L : Row7} {s : Bool} {p' : Option Nat} (h : Cl9 w W L s p') (hb : Below W.heap.size W W') : Cl9 w W' L s p' := ⟨h.1.later hb, h.2⟩

section
variable {w W W' : World} {B : Nat} {p q : Option Nat} {L M : Row7} {D : Nat → Bool} {x : Nat → Value}
theorem upd_same {x : Nat → Value} {i : Nat} {v : Value} : upd x i v i = v := if_pos rfl
theorem upd_ne {x : Nat → Value} {i j : Nat} {v : Value} (h : j ≠ i) : upd x i v j = x j := if_neg h
theorem updL_ne {D : Nat → Bool} {i j : Nat} (h : j ≠ i) : updL D i j = D j := if_neg h
theorem Cp9.more (h : Cp9 w B p q L M D x W) (i : Nat) (v : Value) (hb : Below W.heap.size W W') (hy : YCp9 B p q i v)
  (h4 : i = 4 → ∃ p', v = .map p' ∧ Cl9 w W' L p.isSome p' ∧ ∀ b, p' = some b → W.heap.size ≤ b) (h9 : i = 9 → ∃ q', v = .map q' ∧ Cl9 w W' M q.isSome q' ∧ ∀ b, q' = some b → W.heap.size ≤ b)
  (h10 : i = 10 → ∃ p' q', v = .agg #[.map p', .map q'] ∧ Cl9 w W' L p.isSome p' ∧ Cl9 w W' M q.isSome q' ∧ ∀ b c, p' = some b → q' = some c → b ≠ c)
  (h11 : i = 11 → ∃ b p' q', v = .pointer (some ⟨b, 0, none⟩) ∧ New9 w W' b p' q' L M) (h12 : i = 12 → ∃ b p' q', v = .pointer (some ⟨b, 0, none⟩) ∧ New9 w W' b p' q' L M) : Cp9 w B p q L M (updL D i) (upd x i v) W' := by
 refine ⟨below_next h.b hb, fun {j} hd => ?_, fun hd => ?_, fun hd => ?_, fun hd4 hd9 p' q' e4 e9 b c eb ec => ?_, fun hd => ?_, fun hd => ?_, fun hd => ?_⟩
 ·
  by_cases e : j = i
  ·
   subst e; rw [upd_same]; exact hy
  ·
   rw [upd_ne e]; rw [updL_ne e] at hd; exact h.y hd
 ·
  by_cases e : 4 = i
  ·
   subst e; rw [upd_same]; obtain ⟨p', e1, e2, _⟩ := h4 rfl; exact ⟨p', e1, e2⟩
  ·
   rw [upd_ne e]; rw [updL_ne e] at hd; obtain ⟨p', e1, e2⟩ := h.y4 hd; exact ⟨p', e1, e2.later hb⟩
 ·
  by_cases e : 9 = i
  ·
   subst e; rw [upd_same]; obtain ⟨p', e1, e2, _⟩ := h9 rfl; exact ⟨p', e1, e2⟩
  ·
   rw [upd_ne e]; rw [updL_ne e] at hd; obtain ⟨p', e1, e2⟩ := h.y9 hd; exact ⟨p', e1, e2.later hb⟩
 ·
  subst eb ec
  by_cases i4 : 4 = i
  ·
   subst i4
   rw [upd_same] at e4
   rw [upd_ne (by decide)] at e9
   rw [updL_ne (by decide)] at hd9
   obtain ⟨p', e1, _, e3⟩ := h4 rfl
   obtain ⟨q', f1, f2⟩ := h.y9 hd9
   rw [e4] at e1; rw [e9] at f1
   injection e1 with e1; injection f1 with f1
   have := e3 b e1.symm
   have := f2.1.lt c f1.symm
   omega
  ·
   by_cases i9 : 9 = i
   ·
    subst i9
    rw [upd_same] at e9
    rw [upd_ne (by decide)] at e4
    rw [updL_ne (by decide)] at hd4
    obtain ⟨q', e1, _, e3⟩ := h9 rfl
    obtain ⟨p', f1, f2⟩ := h.y4 hd4
    rw [e9] at e1; rw [e4] at f1
    injection e1 with e1; injection f1 with f1
    have := e3 c e1.symm
    have := f2.1.lt b f1.symm
    omega
   ·
    rw [upd_ne i4] at e4; rw [upd_ne i9] at e9; rw [updL_ne i4] at hd4; rw [updL_ne i9] at hd9
    exact h.ne hd4 hd9 _ _ e4 e9 b c rfl rfl
 ·
  by_cases e : 10 = i
  ·
   subst e; rw [upd_same]; exact h10 rfl
  ·
   rw [upd_ne e]; rw [updL_ne e] at hd; obtain ⟨p', q', e1, e2, e3, e4⟩ := h.y10 hd; exact ⟨p', q', e1, e2.later hb, e3.later hb, e4⟩
 ·
  by_cases e : 11 = i
  ·
   subst e; rw [upd_same]; exact h11 rfl
  ·
   rw [upd_ne e]; rw [updL_ne e] at hd; obtain ⟨b, p', q', e1, e2⟩ := h.y11 hd; exact ⟨b, p', q', e1, e2.later hb⟩
 ·
  by_cases e : 12 = i
  ·
   subst e; rw [upd_same]; exact h12 rfl
  ·
   rw [upd_ne e]; rw [updL_ne e] at hd; obtain ⟨b, p', q', e1, e2⟩ := h.y12 hd; exact ⟨b, p', q', e1, e2.later hb⟩
theorem Cp9.quiet (h : Cp9 w B p q L M D x W) (i : Nat) {v : Value} (hy : YCp9 B p q i v) (hi : [4, 9, 10, 11, 12].contains i = false := by rfl) : Cp9 w B p q L M (updL D i) (upd x i v) W :=
 h.more i v (Below.refl _ _) hy (fun e => by subst e; cases hi) (fun e => by subst e; cases hi) (fun e => by subst e; cases hi) (fun e => by subst e; cases hi) (fun e => by subst e; cases hi)
theorem Cp9.at10 (h : Cp9 w B p q L M D x W) {v : Value} (hv : ∃ p' q', v = .agg #[.map p', .map q'] ∧ Cl9 w W L p.isSome p' ∧ Cl9 w W M q.isSome q' ∧ ∀ b c, p' = some b → q' = some c → b ≠ c) : Cp9 w B p q L M (updL D 10) (upd x 10 v) W :=
 h.more 10 v (Below.refl _ _) trivial (fun e => absurd e (by decide)) (fun e => absurd e (by decide)) (fun _ => hv) (fun e => absurd e (by decide)) (fun e => absurd e (by decide))
theorem Cp9.at12 (h : Cp9 w B p q L M D x W) {v : Value} (hv : ∃ b p' q', v = .pointer (some ⟨b, 0, none⟩) ∧ New9 w W b p' q' L M) : Cp9 w B p q L M (updL D 12) (upd x 12 v) W :=
 h.more 12 v (Below.refl _ _) trivial (fun e => absurd e (by decide)) (fun e => absurd e (by decide)) (fun e => absurd e (by decide)) (fun e => absurd e (by decide)) (fun _ => hv)
theorem Cp9.start (w : World) (x : Nat → Value) : Cp9 w B p q L M (fun _ => false) x w.drew :=
 ⟨below_drew (Below.refl _ _), (fun {_} h => nomatch h), (fun h => nomatch h), (fun h => nomatch h), (fun h _ => nomatch h), (fun h => nomatch h), (fun h => nomatch h), (fun h => nomatch h)⟩
end


end Go.Proofs.YtmcomnocpibiiaaGreatDoor
