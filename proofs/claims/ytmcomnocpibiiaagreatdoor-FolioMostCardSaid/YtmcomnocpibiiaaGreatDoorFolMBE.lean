/-
  The texts that the laws of this seat share, part 5: what the code and the document's own answers tell, walked function by function.
  Conditions: each theorem's own.
-/
import Derived.StringKeys
import Derived.WideKeyEntry
import Derived.Maps.RangeWalk
import Derived.Shelf.SlMaps.Clone
import Derived.LoopN
import Derived.Maps.OwnSet
import Derived.Shelf.SlIter.Collect
import Derived.Sort.OwnSorted
import Derived.Maps.AppendAt
import Derived.BigQuiet
import Derived.Laws.Cover1
import Derived.Test.YtmcomnocpibiiaaGreatDoorFolMBA
import Derived.Test.YtmcomnocpibiiaaGreatDoorFolMBB
import Derived.Test.YtmcomnocpibiiaaGreatDoorFolMBC
import Derived.Test.YtmcomnocpibiiaaGreatDoorFolMBD
namespace Go.Proofs.YtmcomnocpibiiaaGreatDoor
open Go.Maps

abbrev RowV (V : Type) := List (List UInt8 × V)
section
variable {V : Type}
def RiseV (L : RowV V) : Prop := L.Pairwise (fun p q => bytesBefore p.1 q.1 = true)
def entV (e : V → DataW Unit) (p : List UInt8 × V) : Lit × DataW Unit := (.string p.1, e p.2)
def datV (e : V → DataW Unit) (L : RowV V) : DataW Unit := .map (L.map (entV e))
def insV (x : List UInt8 × V) : RowV V → RowV V
 | [] => [x]
 | y :: r => if bytesBefore x.1 y.1 then x :: y :: r else y :: insV x r
def delV (L : RowV V) (k : List UInt8) : RowV V := L.filter (fun p => !(p.1 == k))
def putV (L : RowV V) (k : List UInt8) (v : V) : RowV V := insV (k, v) (delV L k)
def hasV (L : RowV V) (k : List UInt8) : Bool := L.any (fun p => p.1 == k)
def getV (L : RowV V) (k : List UInt8) : Option V := (L.find? (fun p => p.1 == k)).map (·.2)
def names10 (L : RowV V) : List (List UInt8) := L.map (·.1)
def updV (f : V → V) (L : RowV V) (k : List UInt8) : RowV V := L.map fun p => if p.1 = k then (p.1, f p.2) else p

theorem datV_ins (e : V → DataW Unit) (x : List UInt8 × V) : ∀ L : RowV V, (insV x L).map (entV e) = DataW.insert (entV e x) (L.map (entV e))
 | [] => rfl
 | y :: r => by
  simp only [insV, List.map_cons, DataW.insert]
  have h : (entV e x).1.before (entV e y).1 = bytesBefore x.1 y.1 := rfl
  rw [h]
  cases bytesBefore x.1 y.1
  ·
   simp [datV_ins e x r]
  ·
   simp
theorem datV_fil (e : V → DataW Unit) (k : List UInt8) : ∀ L : RowV V, (delV L k).map (entV e) = (L.map (entV e)).filter (fun p => !p.1.sameKey (.string k))
 | [] => rfl
 | y :: r => by
  have ih := datV_fil e k r
  unfold delV at ih ⊢
  have h : (entV e y).1.sameKey (.string k) = (y.1 == k) := rfl
  simp only [List.filter_cons, List.map_cons, h]
  cases (y.1 == k) <;> simp [ih]
theorem datV_put (e : V → DataW Unit) (L : RowV V) (k : List UInt8) (v : V) : (datV e L).put (.string k) (e v) = datV e (putV L k v) := by
 unfold datV putV
 rw [datV_ins, datV_fil]; rfl
theorem datV_del (e : V → DataW Unit) (L : RowV V) (k : List UInt8) : (datV e L).del (.string k) = datV e (delV L k) := by
 unfold datV
 rw [datV_fil]; rfl
theorem datV_has (e : V → DataW Unit) (L : RowV V) (k : List UInt8) : Maps.has (datV e L) (.string k) = hasV L k := by
 unfold datV hasV
 rw [Maps.has_eq, List.any_map]; rfl
theorem datV_at (e : V → DataW Unit) (L : RowV V) (k : List UInt8) (z : DataW Unit) : (datV e L).atKey (.string k) z = match getV L k with | some v => e v | none => z := by
 unfold datV getV
 unfold DataW.atKey
 simp only [List.find?_map]
 have h : ((fun p : Lit × DataW Unit => p.1.sameKey (.string k)) ∘ entV e) = (fun p : List UInt8 × V => p.1 == k) := rfl
 rw [h]
 cases L.find? (fun p => p.1 == k) <;> rfl
theorem datV_size (e : V → DataW Unit) (L : RowV V) : Maps.size (datV e L) = L.length := by simp [datV, Maps.size]
theorem datV_upd {e : V → DataW Unit} {f : V → V} (hf : ∀ v, e (f v) = e v) (L : RowV V) (k : List UInt8) : datV e (updV f L k) = datV e L := by
 unfold datV updV
 rw [List.map_map]
 congr 1
 refine List.map_congr_left fun p _ => ?_
 show entV e (if p.1 = k then (p.1, f p.2) else p) = entV e p
 split
 ·
  unfold entV; rw [hf]
 ·
  rfl

theorem mem_insV {x y : List UInt8 × V} : ∀ {L : RowV V}, y ∈ insV x L ↔ y = x ∨ y ∈ L
 | [] => by simp [insV]
 | z :: r => by
  unfold insV
  split
  ·
   simp
  ·
   simp only [List.mem_cons, mem_insV (L := r)]
   constructor
   ·
    rintro (h | h | h)
    ·
     exact .inr (.inl h)
    ·
     exact .inl h
    ·
     exact .inr (.inr h)
   ·
    rintro (h | h | h)
    ·
     exact .inr (.inl h)
    ·
     exact .inl h
    ·
     exact .inr (.inr h)
theorem mem_delV {L : RowV V} {k : List UInt8} {p : List UInt8 × V} : p ∈ delV L k ↔ p ∈ L ∧ p.1 ≠ k := by
 unfold delV; simp
theorem mem_putV {L : RowV V} {k : List UInt8} {v : V} {p : List UInt8 × V} : p ∈ putV L k v ↔ p = (k, v) ∨ (p ∈ L ∧ p.1 ≠ k) := by
 unfold putV
 rw [mem_insV, mem_delV]
theorem riseV_del {L : RowV V} (h : RiseV L) (k : List UInt8) : RiseV (delV L k) := h.filter _
theorem riseV_ins {x : List UInt8 × V} : ∀ {L : RowV V}, RiseV L → (∀ p ∈ L, p.1 ≠ x.1) → RiseV (insV x L)
 | [], _, _ => by simp [insV, RiseV]
 | y :: r, h, hn => by
  unfold insV
  obtain ⟨h1, h2⟩ := List.pairwise_cons.1 h
  split
  ·
   rename_i hb
   exact List.pairwise_cons.2 ⟨fun p hp => by
    rcases List.mem_cons.1 hp with rfl | hp
    ·
     exact hb
    ·
     exact WideShapes.bytes_trans _ _ _ hb (h1 p hp), h⟩
  ·
   rename_i hb
   have hyx : bytesBefore y.1 x.1 = true := by
    rcases WideAt.bytes_total y.1 x.1 (hn y (by simp)) with h' | h'
    ·
     exact h'
    ·
     exact absurd h' hb
   exact List.pairwise_cons.2 ⟨fun p hp => by
    rcases mem_insV.1 hp with rfl | hp
    ·
     exact hyx
    ·
     exact h1 p hp, riseV_ins h2 (fun p hp => hn p (by simp [hp]))⟩
theorem riseV_put {L : RowV V} (h : RiseV L) (k : List UInt8) (v : V) : RiseV (putV L k v) :=
 riseV_ins (riseV_del h k) (fun _ hp => (mem_delV.1 hp).2)
theorem updV_names (f : V → V) (L : RowV V) (k : List UInt8) : names10 (updV f L k) = names10 L := by
 unfold names10 updV
 rw [List.map_map]
 refine List.map_congr_left fun p _ => ?_
 show (if p.1 = k then (p.1, f p.2) else p).1 = p.1
 split <;> rfl
theorem riseV_names {W : Type} {L : RowV V} {L' : RowV W} (h : RiseV L) (e : names10 L' = names10 L) : RiseV L' := by
 have h1 : (names10 L).Pairwise (fun a b => bytesBefore a b = true) := List.pairwise_map.2 h
 rw [← e] at h1
 exact List.pairwise_map.1 h1
theorem riseV_upd {L : RowV V} (h : RiseV L) (f : V → V) (k : List UInt8) : RiseV (updV f L k) := riseV_names h (updV_names f L k)

theorem hasV_iff {L : RowV V} {k : List UInt8} : hasV L k = true ↔ ∃ p ∈ L, p.1 = k := by simp [hasV]
theorem hasV_names {L : RowV V} {k : List UInt8} : hasV L k = true ↔ k ∈ names10 L := by
 rw [hasV_iff]
 simp [names10]
theorem hasV_false {L : RowV V} {k : List UInt8} : hasV L k = false ↔ k ∉ names10 L := by
 rw [← hasV_names]; simp
theorem delV_of_not {L : RowV V} {k : List UInt8} (h : hasV L k = false) : delV L k = L := by
 unfold delV; rw [List.filter_eq_self]
 intro p hp
 cases e : (p.1 == k)
 ·
  rfl
 ·
  have : hasV L k = true := hasV_iff.2 ⟨p, hp, by simpa using e⟩
  rw [h] at this; cases this
theorem insV_length (x : List UInt8 × V) : ∀ L : RowV V, (insV x L).length = L.length + 1
 | [] => rfl
 | y :: r => by unfold insV; split <;> simp [insV_length x r]
theorem delV_le (L : RowV V) (k : List UInt8) : (delV L k).length ≤ L.length := List.length_filter_le _ _
theorem putV_le (L : RowV V) (k : List UInt8) (v : V) : (putV L k v).length ≤ L.length + 1 := by
 unfold putV
 rw [insV_length]
 have := delV_le L k
 omega
theorem getV_some {L : RowV V} (hr : RiseV L) {k : List UInt8} {v : V} : getV L k = some v ↔ (k, v) ∈ L := by
 induction L with
 | nil => simp [getV]
 | cons y r ih =>
  obtain ⟨h1, h2⟩ := List.pairwise_cons.1 hr
  unfold getV at ih ⊢
  rw [List.find?_cons]
  by_cases e : y.1 = k
  ·
   have e' : (y.1 == k) = true := by simpa using e
   simp only [e', Option.map_some, Option.some.injEq, List.mem_cons]
   constructor
   ·
    intro h; left; rw [← h, ← e]
   ·
    rintro (h | h)
    ·
     rw [← h]
    ·
     exact absurd (h1 _ h) (by rw [e, before_irrefl]; exact Bool.noConfusion)
  ·
   have e' : (y.1 == k) = false := by simpa using e
   simp only [e', List.mem_cons]
   rw [ih h2]
   constructor
   ·
    exact .inr
   ·
    rintro (h | h)
    ·
     exact absurd (by rw [← h]) e
    ·
     exact h
theorem getV_none {L : RowV V} {k : List UInt8} : getV L k = none ↔ hasV L k = false := by
 unfold getV hasV
 rw [Option.map_eq_none_iff, List.find?_eq_none, List.any_eq_false]
theorem getV_has {L : RowV V} {k : List UInt8} (h : hasV L k = true) : ∃ v, getV L k = some v := by
 cases hg : getV L k
 ·
  rw [getV_none.1 hg] at h; cases h
 ·
  exact ⟨_, rfl⟩
theorem riseV_one {L : RowV V} (hr : RiseV L) {p q : List UInt8 × V} (hp : p ∈ L) (hq : q ∈ L) (e : p.1 = q.1) : p = q := by
 have h1 := (getV_some hr (k := p.1) (v := p.2)).2 hp
 have h2 := (getV_some hr (k := p.1) (v := q.2)).2 (by rw [e]; exact hq)
 rw [h1] at h2
 injection h2 with h2
 exact Prod.ext e h2
theorem names_put {L : RowV V} {k : List UInt8} {v : V} {x : List UInt8} : x ∈ names10 (putV L k v) ↔ x = k ∨ x ∈ names10 L := by
 unfold names10
 simp only [List.mem_map, mem_putV]
 constructor
 ·
  rintro ⟨p, rfl | ⟨hp, _⟩, rfl⟩
  ·
   exact .inl rfl
  ·
   exact .inr ⟨p, hp, rfl⟩
 ·
  rintro (rfl | ⟨p, hp, rfl⟩)
  ·
   exact ⟨_, .inl rfl, rfl⟩
  ·
   by_cases e : p.1 = k
   ·
    exact ⟨(k, v), .inl rfl, e.symm⟩
   ·
    exact ⟨p, .inr ⟨hp, e⟩, rfl⟩
theorem names_del {L : RowV V} {k x : List UInt8} : x ∈ names10 (delV L k) ↔ x ∈ names10 L ∧ x ≠ k := by
 unfold names10
 simp only [List.mem_map, mem_delV]
 constructor
 ·
  rintro ⟨p, ⟨hp, hn⟩, rfl⟩; exact ⟨⟨p, hp, rfl⟩, hn⟩
 ·
  rintro ⟨⟨p, hp, rfl⟩, hn⟩; exact ⟨p, ⟨hp, hn⟩, rfl⟩
theorem hasV_put {L : RowV V} {k x : List UInt8} {v : V} : hasV (putV L k v) x = true ↔ x = k ∨ hasV L x = true := by
 rw [hasV_names, names_put, hasV_names]
theorem map_insV {W : Type} (f : V → W) (x : List UInt8 × V) : ∀ L : RowV V, (insV x L).map (fun p => (p.1, f p.2)) = insV (x.1, f x.2) (L.map fun p => (p.1, f p.2))
 | [] => rfl
 | y :: r => by
  unfold insV
  simp only [List.map_cons]
  split <;> simp [map_insV f x r]
theorem map_delV {W : Type} (f : V → W) (L : RowV V) (k : List UInt8) : (delV L k).map (fun p => (p.1, f p.2)) = delV (L.map fun p => (p.1, f p.2)) k := by
 unfold delV
 rw [List.filter_map]
 rfl
theorem map_putV {W : Type} (f : V → W) (L : RowV V) (k : List UInt8) (v : V) : (putV L k v).map (fun p => (p.1, f p.2)) = putV (L.map fun p => (p.1, f p.2)) k (f v) := by
 unfold putV
 rw [map_insV, map_delV]
theorem map_names {W : Type} (f : V → W) (L : RowV V) : names10 (L.map fun p => (p.1, f p.2)) = names10 L := by
 unfold names10
 rw [List.map_map]; rfl
theorem map_hasV {W : Type} (f : V → W) (L : RowV V) (k : List UInt8) : hasV (L.map fun p => (p.1, f p.2)) k = hasV L k := by
 unfold hasV
 rw [List.any_map]; rfl
end

/-! ### rows of texts -/
def RiseT (l : List (List UInt8)) : Prop := l.Pairwise (fun a b => bytesBefore a b = true)
theorem RiseV.names {V : Type} {L : RowV V} (h : RiseV L) : RiseT (names10 L) := List.pairwise_map.2 h
theorem riseT_ext : ∀ {a b : List (List UInt8)}, RiseT a → RiseT b → (∀ x, x ∈ a ↔ x ∈ b) → a = b
 | [], [], _, _, _ => rfl
 | [], y :: s, _, _, h => absurd ((h y).2 (by simp)) (by simp)
 | x :: r, [], _, _, h => absurd ((h x).1 (by simp)) (by simp)
 | x :: r, y :: s, ha, hb, h => by
  obtain ⟨a1, a2⟩ := List.pairwise_cons.1 ha
  obtain ⟨b1, b2⟩ := List.pairwise_cons.1 hb
  have e : x = y := by
   rcases List.mem_cons.1 ((h x).1 (by simp)) with e | hx
   ·
    exact e
   ·
    rcases List.mem_cons.1 ((h y).2 (by simp)) with e | hy
    ·
     exact e.symm
    ·
     exact absurd (b1 _ hx) (by rw [before_anti (a1 _ hy)]; exact Bool.noConfusion)
  subst e
  rw [riseT_ext a2 b2 fun z => ?_]
  constructor
  ·
   intro hz
   rcases List.mem_cons.1 ((h z).1 (by simp [hz])) with e | h'
   ·
    subst e; exact absurd (a1 _ hz) (by rw [before_irrefl]; exact Bool.noConfusion)
   ·
    exact h'
  ·
   intro hz
   rcases List.mem_cons.1 ((h z).2 (by simp [hz])) with e | h'
   ·
    subst e; exact absurd (b1 _ hz) (by rw [before_irrefl]; exact Bool.noConfusion)
   ·
    exact h'
theorem sort_rise {ls ss : List (List UInt8)} (hr : RiseT ls) (hp : ss.Perm ls) (le : List UInt8 → List UInt8 → Bool) (hle : ∀ x y, le x y = !bytesBefore y x) : ss.mergeSort le = ls := by
 have := sort_names (L := ls.map fun x => (x, [])) (List.pairwise_map.2 (by exact hr)) (ss := ss) (by rw [List.map_map]; exact (List.map_id ls).symm ▸ hp) le hle
 rw [this, List.map_map]
 exact List.map_id ls

def insT (s : List UInt8) : List (List UInt8) → List (List UInt8)
 | [] => [s]
 | t :: r => if bytesBefore s t then s :: t :: r else t :: insT s r
theorem insT_mem {s x : List UInt8} : ∀ {l : List (List UInt8)}, x ∈ insT s l ↔ x = s ∨ x ∈ l
 | [] => by simp [insT]
 | t :: r => by
  unfold insT
  split
  ·
   simp
  ·
   simp only [List.mem_cons, insT_mem (l := r)]
   constructor
   ·
    rintro (h | h | h)
    ·
     exact .inr (.inl h)
    ·
     exact .inl h
    ·
     exact .inr (.inr h)
   ·
    rintro (h | h | h)
    ·
     exact .inr (.inl h)
    ·
     exact .inl h
    ·
     exact .inr (.inr h)
theorem insT_rise {s : List UInt8} : ∀ {l : List (List UInt8)}, RiseT l → s ∉ l → RiseT (insT s l)
 | [], _, _ => by simp [insT, RiseT]
 | t :: r, h, hn => by
  unfold insT
  obtain ⟨h1, h2⟩ := List.pairwise_cons.1 h
  split
  ·
   rename_i hb
   exact List.pairwise_cons.2 ⟨fun p hp => by
    rcases List.mem_cons.1 hp with rfl | hp
    ·
     exact hb
    ·
     exact WideShapes.bytes_trans _ _ _ hb (h1 p hp), h⟩
  ·
   rename_i hb
   have hts : bytesBefore t s = true := by
    rcases WideAt.bytes_total t s (fun e => hn (by simp [e])) with h' | h'
    ·
     exact h'
    ·
     exact absurd h' hb
   exact List.pairwise_cons.2 ⟨fun p hp => by
    rcases insT_mem.1 hp with rfl | hp
    ·
     exact hts
    ·
     exact h1 p hp, insT_rise h2 (fun hp => hn (by simp [hp]))⟩
def sortStep (out : List (List UInt8)) (s : List UInt8) : List (List UInt8) := if s ∈ out then out else insT s out
def sortT (l : List (List UInt8)) : List (List UInt8) := l.foldl sortStep []
theorem sortStep_rise {o : List (List UInt8)} (h : RiseT o) (s : List UInt8) : RiseT (sortStep o s) := by
 unfold sortStep
 split
 ·
  exact h
 ·
  rename_i hn; exact insT_rise h hn
theorem sortStep_mem {o : List (List UInt8)} {s x : List UInt8} : x ∈ sortStep o s ↔ x = s ∨ x ∈ o := by
 unfold sortStep
 split
 ·
  rename_i h
  constructor
  ·
   exact .inr
  ·
   rintro (rfl | h')
   ·
    exact h
   ·
    exact h'
 ·
  exact insT_mem
theorem foldl_rise : ∀ (l o : List (List UInt8)), RiseT o → RiseT (l.foldl sortStep o)
 | [], _, h => h
 | s :: r, _, h => foldl_rise r _ (sortStep_rise h s)
theorem foldl_mem {x : List UInt8} : ∀ (l o : List (List UInt8)), x ∈ l.foldl sortStep o ↔ x ∈ l ∨ x ∈ o
 | [], _ => by simp
 | s :: r, o => by
  show x ∈ r.foldl sortStep (sortStep o s) ↔ _
  rw [foldl_mem r, sortStep_mem]
  simp only [List.mem_cons]
  constructor
  ·
   rintro (h | h | h)
   ·
    exact .inl (.inr h)
   ·
    exact .inl (.inl h)
   ·
    exact .inr h
  ·
   rintro ((h | h) | h)
   ·
    exact .inr (.inl h)
   ·
    exact .inl h
   ·
    exact .inr (.inr h)
theorem sortT_rise (l : List (List UInt8)) : RiseT (sortT l) := foldl_rise l [] List.Pairwise.nil
theorem sortT_mem {l : List (List UInt8)} {x : List UInt8} : x ∈ sortT l ↔ x ∈ l := by
 unfold sortT
 rw [foldl_mem]; simp
theorem sortT_eq {l r : List (List UInt8)} (hr : RiseT r) (h : ∀ x, x ∈ r ↔ x ∈ l) : sortT l = r :=
 riseT_ext (sortT_rise l) hr fun x => by rw [sortT_mem, h]

/-! ### groups, as the code has them -/
abbrev Set10 := RowV Unit
abbrev Grs10 := RowV Set10
def mem10 (S : Grs10) (g : List UInt8) : Set10 := (getV S g).getD []
def in10 (S : Grs10) (g n : List UInt8) : Bool := hasV (mem10 S g) n
def findE10 (S : Grs10) (g : List UInt8) (l : List (List UInt8)) : Int := if name5 g && l.all name5 then (if hasV S g then 0 else 8) else 10
def maE10 (S : Grs10) (g : List UInt8) : Int := if name5 g then (if hasV S g then 9 else if 6 ≤ S.length then 7 else 0) else 10
def maS10 (S : Grs10) (g : List UInt8) : Grs10 := if maE10 S g = 0 then putV S g [] else S
def drE10 (S : Grs10) (g : List UInt8) : Int := findE10 S g []
def drS10 (S : Grs10) (g : List UInt8) : Grs10 := if drE10 S g = 0 then delV S g else S
def joE10 (S : Grs10) (g n : List UInt8) : Int := if findE10 S g [n] = 0 then (if in10 S g n then 9 else 0) else findE10 S g [n]
def joS10 (S : Grs10) (g n : List UInt8) : Grs10 := if joE10 S g n = 0 then updV (fun l => putV l n ()) S g else S
def ofs10 (S : Grs10) (n : List UInt8) : Grs10 := S.filter fun p => hasV p.2 n
def of10 (S : Grs10) (n : List UInt8) : List (List UInt8) := names10 (ofs10 S n)

structure Good10 (S : Grs10) (k : Nat) : Prop where
 rise : RiseV S
 sets : ∀ p ∈ S, RiseV p.2
 few : S.length ≤ 6
 little : ∀ p ∈ S, p.2.length ≤ k
 named : ∀ p ∈ S, name5 p.1 = true
 whos : ∀ p ∈ S, ∀ m ∈ p.2, name5 m.1 = true
theorem Good10.nil : Good10 [] 0 := ⟨List.Pairwise.nil, (fun _ h => nomatch h), by simp, (fun _ h => nomatch h), (fun _ h => nomatch h), (fun _ h => nomatch h)⟩
theorem Good10.mono {S : Grs10} {k k' : Nat} (h : Good10 S k) (hk : k ≤ k') : Good10 S k' := ⟨h.rise, h.sets, h.few, fun p hp => Nat.le_trans (h.little p hp) hk, h.named, h.whos⟩

theorem mem10_at {S : Grs10} (hr : RiseV S) {p : List UInt8 × Set10} (h : p ∈ S) : mem10 S p.1 = p.2 := by
 unfold mem10
 rw [(getV_some hr).2 (show (p.1, p.2) ∈ S from h)]; rfl
theorem mem10_none {S : Grs10} {g : List UInt8} (h : hasV S g = false) : mem10 S g = [] := by
 unfold mem10
 rw [getV_none.2 h]; rfl
theorem in10_iff {S : Grs10} (hr : RiseV S) {g n : List UInt8} : in10 S g n = true ↔ ∃ p ∈ S, p.1 = g ∧ hasV p.2 n = true := by
 unfold in10
 constructor
 ·
  intro h
  cases hg : hasV S g with
  | false => rw [mem10_none hg] at h; cases h
  | true =>
   obtain ⟨p, hp, rfl⟩ := hasV_iff.1 hg
   rw [mem10_at hr hp] at h
   exact ⟨p, hp, rfl, h⟩
 ·
  rintro ⟨p, hp, rfl, h⟩
  rw [mem10_at hr hp]; exact h
theorem of10_mem {S : Grs10} (hr : RiseV S) {g n : List UInt8} : g ∈ of10 S n ↔ in10 S g n = true := by
 rw [in10_iff hr]
 unfold of10 ofs10 names10
 simp only [List.mem_map, List.mem_filter]
 constructor
 ·
  rintro ⟨p, ⟨hp, h⟩, rfl⟩; exact ⟨p, hp, rfl, h⟩
 ·
  rintro ⟨p, hp, rfl, h⟩; exact ⟨p, ⟨hp, h⟩, rfl⟩
theorem of10_rise {S : Grs10} (hr : RiseV S) (n : List UInt8) : RiseT (of10 S n) := RiseV.names (hr.filter _)
theorem of10_sub {S : Grs10} {g n : List UInt8} (h : g ∈ of10 S n) : g ∈ names10 S := by
 unfold of10 ofs10 names10 at h
 obtain ⟨p, hp, rfl⟩ := List.mem_map.1 h
 exact List.mem_map.2 ⟨p, (List.mem_filter.1 hp).1, rfl⟩
theorem of10_le (S : Grs10) (n : List UInt8) : (of10 S n).length ≤ S.length := by
 unfold of10 ofs10 names10
 rw [List.length_map]
 exact List.length_filter_le _ _
theorem names10_length {V : Type} (L : RowV V) : (names10 L).length = L.length := List.length_map _

theorem good_make {S : Grs10} {k : Nat} (h : Good10 S k) (g : List UInt8) : Good10 (maS10 S g) k := by
 unfold maS10
 split
 case isFalse => exact h
 case isTrue he =>
  unfold maE10 at he
  split at he
  case isFalse => cases he
  case isTrue hn =>
  split at he
  ·
   cases he
  ·
   rename_i hh
   have hf : hasV S g = false := by simpa using hh
   split at he
   ·
    cases he
   ·
    rename_i h6
    refine ⟨riseV_put h.rise g [], fun p hp => ?_, ?_, fun p hp => ?_, fun p hp => ?_, fun p hp => ?_⟩
    ·
     rcases mem_putV.1 hp with rfl | ⟨hp, _⟩
     ·
      exact List.Pairwise.nil
     ·
      exact h.sets p hp
    ·
     have := putV_le S g []; omega
    ·
     rcases mem_putV.1 hp with rfl | ⟨hp, _⟩
     ·
      simp
     ·
      exact h.little p hp
    ·
     rcases mem_putV.1 hp with rfl | ⟨hp, _⟩
     ·
      exact hn
     ·
      exact h.named p hp
    ·
     rcases mem_putV.1 hp with rfl | ⟨hp, _⟩
     ·
      intro m hm; cases hm
     ·
      exact h.whos p hp
theorem good_upd {S : Grs10} {k k' : Nat} (h : Good10 S k) (f : Set10 → Set10) (g : List UInt8) (hk : k ≤ k') (hf : ∀ l : Set10, RiseV l → l.length ≤ k → RiseV (f l) ∧ (f l).length ≤ k') (hw : ∀ l : Set10, (∀ m ∈ l, name5 m.1 = true) → ∀ m ∈ f l, name5 m.1 = true) : Good10 (updV f S g) k' := by
 refine ⟨riseV_upd h.rise f g, fun p hp => ?_, by rw [updV, List.length_map]; exact h.few, fun p hp => ?_, fun p hp => ?_, fun p hp => ?_⟩
 all_goals
  obtain ⟨q, hq, rfl⟩ := List.mem_map.1 hp
  have := hf q.2 (h.sets q hq) (h.little q hq)
  by_cases e : q.1 = g
  ·
   simp only [e, if_true]
   first | exact this.1 | exact this.2 | (rw [← e]; exact h.named q hq) | exact hw q.2 (h.whos q hq)
  ·
   simp only [e, if_false]
   first | exact h.sets q hq | exact Nat.le_trans (h.little q hq) hk | exact h.named q hq | exact h.whos q hq
theorem good_join {S : Grs10} {k : Nat} (h : Good10 S k) (g n : List UInt8) : Good10 (joS10 S g n) (k + 1) := by
 unfold joS10
 split
 ·
  rename_i he
  have hn : name5 n = true := by
   unfold joE10 at he
   split at he
   ·
    rename_i hz
    unfold findE10 at hz
    split at hz
    ·
     rename_i hb
     simp only [List.all_cons, List.all_nil, Bool.and_true, Bool.and_eq_true] at hb
     exact hb.2
    ·
     cases hz
   ·
    rename_i hz; exact absurd he hz
  exact good_upd h _ g (by omega) (fun l hl hk => ⟨riseV_put hl n (), by have := putV_le l n (); omega⟩) fun l hl m hm => by
   rcases mem_putV.1 hm with rfl | ⟨hm, _⟩
   ·
    exact hn
   ·
    exact hl m hm
 ·
  exact h.mono (by omega)
end Go.Proofs.YtmcomnocpibiiaaGreatDoor
namespace Go.Proofs.YtmcomnocpibiiaaGreatDoor
open Go.Maps

abbrev Who10 := List UInt8 × List UInt8
def hasT (l : List (List UInt8)) (s : List UInt8) : Bool := l.any fun t => t == s
theorem hasT_iff {l : List (List UInt8)} {s : List UInt8} : hasT l s = true ↔ s ∈ l := by simp [hasT]
def dropN (N : List (List UInt8)) (g : List UInt8) : List (List UInt8) := N.filter fun s => !(s == g)
def dropM (M : List Who10) (g : List UInt8) : List Who10 := M.filter fun m => !(m.1 == g)


structure Rel10 (S : Grs10) (N : List (List UInt8)) (M : List Who10) : Prop where
 names : N = names10 S
 mem : ∀ g n, (g, n) ∈ M ↔ in10 S g n = true

section
variable {S : Grs10} {N : List (List UInt8)} {M : List Who10} {k : Nat}
theorem Rel10.nil : Rel10 [] [] [] := ⟨rfl, fun _ _ => by simp [in10, mem10, getV, hasV]⟩
theorem Rel10.has (h : Rel10 S N M) (g : List UInt8) : hasT N g = hasV S g := by
 rw [Bool.eq_iff_iff, hasT_iff, hasV_names, h.names]
theorem Rel10.len (h : Rel10 S N M) : N.length = S.length := by rw [h.names, names10_length]

theorem in10_put (hr : RiseV S) {g : List UInt8} (hh : hasV S g = false) (g' n : List UInt8) : in10 (putV S g []) g' n = in10 S g' n := by
 rw [Bool.eq_iff_iff, in10_iff (riseV_put hr g []), in10_iff hr]
 constructor
 ·
  rintro ⟨p, hp, rfl, h⟩
  rcases mem_putV.1 hp with rfl | ⟨hp, _⟩
  ·
   cases h
  ·
   exact ⟨p, hp, rfl, h⟩
 ·
  rintro ⟨p, hp, rfl, h⟩
  exact ⟨p, mem_putV.2 (.inr ⟨hp, fun e => by rw [hasV_false] at hh; exact hh (by rw [← e]; exact List.mem_map.2 ⟨p, hp, rfl⟩)⟩), rfl, h⟩
theorem in10_del (hr : RiseV S) (g g' n : List UInt8) : in10 (delV S g) g' n = true ↔ in10 S g' n = true ∧ g' ≠ g := by
 rw [in10_iff (riseV_del hr g), in10_iff hr]
 constructor
 ·
  rintro ⟨p, hp, rfl, h⟩
  obtain ⟨h1, h2⟩ := mem_delV.1 hp
  exact ⟨⟨p, h1, rfl, h⟩, h2⟩
 ·
  rintro ⟨⟨p, hp, rfl, h⟩, h2⟩
  exact ⟨p, mem_delV.2 ⟨hp, h2⟩, rfl, h⟩
theorem in10_upd (hr : RiseV S) (f : Set10 → Set10) (g g' n : List UInt8) : in10 (updV f S g) g' n = true ↔ ∃ p ∈ S, p.1 = g' ∧ hasV (if g' = g then f p.2 else p.2) n = true := by
 rw [in10_iff (riseV_upd hr f g)]
 constructor
 ·
  rintro ⟨q, hq, rfl, h⟩
  obtain ⟨p, hp, rfl⟩ := List.mem_map.1 hq
  refine ⟨p, hp, ?_⟩
  by_cases e : p.1 = g
  ·
   simp only [e, if_true] at h ⊢; exact ⟨trivial, h⟩
  ·
   simp only [e, if_false] at h ⊢; exact ⟨trivial, h⟩
 ·
  rintro ⟨p, hp, rfl, h⟩
  refine ⟨_, List.mem_map.2 ⟨p, hp, rfl⟩, ?_⟩
  by_cases e : p.1 = g
  ·
   simp only [e, if_true] at h ⊢; exact ⟨trivial, h⟩
  ·
   simp only [e, if_false] at h ⊢; exact ⟨trivial, h⟩

theorem maE10_zero {g : List UInt8} (h : maE10 S g = 0) : name5 g = true ∧ hasV S g = false ∧ S.length < 6 := by
 unfold maE10 at h
 split at h
 case isFalse => cases h
 case isTrue hn =>
 split at h
 ·
  cases h
 ·
  rename_i hh
  split at h
  ·
   cases h
  ·
   exact ⟨hn, by simpa using hh, by omega⟩
theorem findE10_zero {g : List UInt8} {l : List (List UInt8)} (h : findE10 S g l = 0) : name5 g = true ∧ l.all name5 = true ∧ hasV S g = true := by
 unfold findE10 at h
 split at h
 case isFalse => cases h
 case isTrue hn =>
 split at h
 ·
  rename_i hh
  simp only [Bool.and_eq_true] at hn
  exact ⟨hn.1, hn.2, hh⟩
 ·
  cases h
theorem joE10_zero {g n : List UInt8} (h : joE10 S g n = 0) : findE10 S g [n] = 0 ∧ in10 S g n = false := by
 unfold joE10 at h
 split at h
 case isFalse hf => exact absurd h hf
 case isTrue hf =>
 split at h
 ·
  cases h
 ·
  rename_i hi; exact ⟨hf, by simpa using hi⟩

theorem Rel10.make (h : Rel10 S N M) (hg : Good10 S k) {g : List UInt8} (he : maE10 S g = 0) : Rel10 (maS10 S g) (sortT (N ++ [g])) M := by
 obtain ⟨hn, hh, h6⟩ := maE10_zero he
 unfold maS10
 rw [if_pos he]
 refine ⟨sortT_eq (riseV_put hg.rise g []).names fun x => ?_, fun g' n => by rw [h.mem, in10_put hg.rise hh]⟩
 rw [names_put, h.names]
 simp [or_comm]
theorem Rel10.drop (h : Rel10 S N M) (hg : Good10 S k) {g : List UInt8} (he : drE10 S g = 0) : Rel10 (drS10 S g) (dropN N g) (dropM M g) := by
 unfold drS10
 rw [if_pos he]
 refine ⟨riseT_ext ?_ (riseV_del hg.rise g).names fun x => ?_, fun g' n => ?_⟩
 ·
  rw [h.names]; exact hg.rise.names.filter _
 ·
  rw [names_del, h.names]; simp [dropN]
 ·
  rw [in10_del hg.rise, ← h.mem]
  simp [dropM]
theorem Rel10.join (h : Rel10 S N M) (hg : Good10 S k) {g n : List UInt8} (he : joE10 S g n = 0) : Rel10 (joS10 S g n) N (M ++ [(g, n)]) := by
 obtain ⟨hf, hi⟩ := joE10_zero he
 obtain ⟨_, _, hh⟩ := findE10_zero hf
 unfold joS10
 rw [if_pos he]
 refine ⟨by rw [h.names, updV_names], fun g' n' => ?_⟩
 rw [in10_upd hg.rise, List.mem_append, h.mem, in10_iff hg.rise, List.mem_singleton]
 constructor
 ·
  rintro (⟨p, hp, rfl, h'⟩ | e)
  ·
   refine ⟨p, hp, rfl, ?_⟩
   split
   ·
    exact hasV_put.2 (.inr h')
   ·
    exact h'
  ·
   injection e with e1 e2
   subst e1 e2
   obtain ⟨p, hp, e⟩ := hasV_iff.1 hh
   exact ⟨p, hp, e, by simp [hasV_put]⟩
 ·
  rintro ⟨p, hp, rfl, h'⟩
  by_cases e : p.1 = g
  ·
   rw [if_pos e] at h'
   rcases hasV_put.1 h' with h' | h'
   ·
    right; rw [e, h']
   ·
    exact .inl ⟨p, hp, rfl, h'⟩
  ·
   rw [if_neg e] at h'
   exact .inl ⟨p, hp, rfl, h'⟩

/-! ### what the laws ask -/
theorem joS10_names (g n : List UInt8) : names10 (joS10 S g n) = names10 S := by
 unfold joS10
 split
 ·
  exact updV_names _ S g
 ·
  rfl
end
end Go.Proofs.YtmcomnocpibiiaaGreatDoor
namespace Go.Proofs.YtmcomnocpibiiaaGreatDoor
open Go.RowKit Go.Maps

theorem ownsMap_tight10 {H : Type} {w : World} {P : Program} {k : TypeId} {R : Value → Option (DataW H × List MemPlace)} {b n : Nat} {D : DataW H} (h : w.ownsMap P k R b n D) : w.ownsMap P k R b (Maps.size D) D := by
 obtain ⟨es, clock, hb, F, _, rfl⟩ := h
 have e1 : Maps.size (DataW.map ((es.toList.map (WideElems.rg P k R)).foldr DataW.insert [])) = es.size := by simp [Maps.size, length_sorted]
 exact ⟨es, clock, hb, F, by rw [e1]; exact Nat.le_refl _, rfl⟩
theorem keyed10 : Keyed Tryz.prog 9 := string_keyed Tryz.underlying9
theorem key10 (s : ByteArray) (h : s.size ≤ maxLen) : keyOf Tryz.prog 9 (.string s) = some (.string s.data.toList) := WideMaps.keyOf_string_mk Tryz.underlying9 h
theorem zerob10 (w : World) : (zeroValue 4).run Tryz.prog w = .ok (.bool false) w := by kernel_rfl
theorem zeros10 (w : World) : (zeroValue 171).run Tryz.prog w = .ok (.map none) w := by kernel_rfl
def tx10 (l : List UInt8) : ByteArray := ⟨l.toArray⟩
theorem tx10_list (l : List UInt8) : (tx10 l).data.toList = l := by simp [tx10]
theorem tx10_back (s : ByteArray) : tx10 s.data.toList = s := by simp [tx10]
theorem tx10_size (l : List UInt8) : (tx10 l).size = l.length := by rw [← size_list, tx10_list]

/-! ### a set of names -/
def et10 : Unit → DataW Unit := fun _ => .lit (.bool true)
def Set10At (w : World) (b : Nat) (L : Set10) : Prop := w.ownsMap Tryz.prog 9 (plainElem Tryz.prog 4) b L.length (datV et10 L)
theorem Set10At.of {w : World} {b n : Nat} {L : Set10} (h : w.ownsMap Tryz.prog 9 (plainElem Tryz.prog 4) b n (datV et10 L)) : Set10At w b L := by
 have := ownsMap_tight10 h
 rwa [datV_size] at this
theorem Set10At.kept {w w' : World} {b : Nat} {L : Set10} (h : Set10At w b L) (hb : w'.heap[b]? = w.heap[b]?) : Set10At w' b L := by
 obtain ⟨es, clock, h1, r⟩ := h
 exact ⟨es, clock, hb.trans h1, r⟩
theorem plainb_inv10 {v : Value} {z : DataW Unit × List MemPlace} (h : plainElem Tryz.prog 4 v = some z) : ∃ c, v = .bool c ∧ z = (.lit (.bool c), []) := by
 cases v <;> simp [plainElem, Tryz.underlying4] at h
 exact ⟨_, rfl, h.symm⟩
theorem atV_none {V : Type} {e : V → DataW Unit} {L : RowV V} {k : List UInt8} (z : DataW Unit) (h : getV L k = none) : (datV e L).atKey (.string k) z = z := by
 rw [datV_at, h]
theorem atV_some {V : Type} {e : V → DataW Unit} {L : RowV V} {k : List UInt8} {v : V} (z : DataW Unit) (h : getV L k = some v) : (datV e L).atKey (.string k) z = e v := by
 rw [datV_at, h]
theorem at_unit10 (L : Set10) (k : List UInt8) : (datV et10 L).atKey (.string k) (.lit (.bool false)) = .lit (.bool (hasV L k)) := by
 cases h : getV L k with
 | none => rw [atV_none _ h, getV_none.1 h]
 | some v =>
  have : hasV L k = true := by
   cases hh : hasV L k
   ·
    rw [getV_none.2 hh] at h; cases h
   ·
    rfl
  rw [atV_some _ h, this]; rfl
theorem has10 {w : World} {b : Nat} {L : Set10} (h : Set10At w b L) (s : ByteArray) (hs : s.size ≤ maxLen) :
  (Instr.lookup 171 (.map (some b)) (.string s) false).run Tryz.prog w = .ok (.bool (hasV L s.data.toList)) w := by
 obtain ⟨v, ps, hrun, hv⟩ := h.lookup keyed10 Tryz.underlying171 (zerob10 w) (plainElem_bool (H := Unit) Tryz.underlying4 false) (key10 s hs)
 obtain ⟨c, rfl, hc⟩ := plainb_inv10 hv
 rw [hrun]
 have hc' : (datV et10 L).atKey (.string s.data.toList) (.lit (.bool false)) = .lit (.bool c) := congrArg Prod.fst hc
 rw [at_unit10] at hc'
 have : hasV L s.data.toList = c := by simpa using hc'
 rw [this]
theorem add10 {w : World} {b : Nat} {L : Set10} (h : Set10At w b L) (hf : L.length ≤ 1000) (s : ByteArray) (hs : s.size ≤ maxLen) :
  ∃ w', (Instr.mapUpdate 171 (.map (some b)) (.string s) (.bool true)).run Tryz.prog w = .ok () w' ∧ Set10At w' b (putV L s.data.toList ()) ∧ w.mapTurned w' b := by
 obtain ⟨w', hrun, hown, ht⟩ := h.store keyed10 Tryz.underlying171 (Nat.lt_of_le_of_lt hf (by decide)) (key10 s hs) (plainElem_bool (H := Unit) Tryz.underlying4 true)
 have e : datV et10 (putV L s.data.toList ()) = (datV et10 L).put (.string s.data.toList) (et10 ()) := (datV_put et10 L _ ()).symm
 exact ⟨w', hrun, Set10At.of (by rw [e]; exact hown), ht⟩
theorem set10_made (w : World) : Set10At (w.alloc (.map #[] 0)) w.heap.size [] :=
 Set10At.of (n := 0) (World.ownsMap_made (H := Unit) w Tryz.prog 9 (plainElem Tryz.prog 4))

/-! ### groups -/
abbrev Rows10 := RowV (Nat × Set10)
def R10 : Value → Option (DataW Unit × List MemPlace)
 | .map (some b) => some (.lit (.int .i64 b), [])
 | .map none => some (.nil, [])
 | _ => none
def eb10 : Nat × Set10 → DataW Unit := fun p => .lit (.int .i64 p.1)
def plain10 (T : Rows10) : Grs10 := T.map fun p => (p.1, p.2.2)
def blk10 (T : Rows10) (g : List UInt8) : Option Nat := (getV T g).map (·.1)
def ob10 : Option Nat → DataW Unit
 | some b => .lit (.int .i64 b)
 | none => .nil
theorem ob10_inj {o o' : Option Nat} (h : ob10 o = ob10 o') : o = o' := by
 cases o with
 | none => cases o' with
  | none => rfl
  | some b => cases h
 | some a => cases o' with
  | none => cases h
  | some b =>
   unfold ob10 at h
   injection h with h
   injection h with _ h
   rw [Int.ofNat.inj h]
theorem at_blk10 (T : Rows10) (k : List UInt8) : (datV eb10 T).atKey (.string k) .nil = ob10 (blk10 T k) := by
 unfold blk10
 cases h : getV T k with
 | none => rw [atV_none _ h]; rfl
 | some v => rw [atV_some _ h]; rfl
theorem r10_inv {v : Value} {z : DataW Unit × List MemPlace} (h : R10 v = some z) : ∃ o, v = .map o ∧ z.1 = ob10 o := by
 unfold R10 at h
 split at h
 ·
  cases h; exact ⟨_, rfl, rfl⟩
 ·
  cases h; exact ⟨_, rfl, rfl⟩
 ·
  cases h

structure Grp10 (w : World) (B : Nat) (p : Option Nat) (T : Rows10) : Prop where
 blk : w.heap[B]? = some (.cells #[.map p] 143 (0, 0))
 nil : p = none → T = []
 map : ∀ b, p = some b → w.ownsMap Tryz.prog 9 R10 b T.length (datV eb10 T)
 sets : ∀ x ∈ T, Set10At w x.2.1 x.2.2
 one : ∀ x ∈ T, ∀ y ∈ T, x.2.1 = y.2.1 → x.1 = y.1
 off : ∀ x ∈ T, p ≠ some x.2.1
 rise : RiseV T

theorem map_ne_cells10 {w : World} {b B n : Nat} {R : Value → Option (DataW Unit × List MemPlace)} {D : DataW Unit} {c : Array Value} {T : TypeId} {fr : Nat × Nat} (hm : w.ownsMap Tryz.prog 9 R b n D) (hB : w.heap[B]? = some (.cells c T fr)) : b ≠ B := fun e => by
 obtain ⟨es, clock, h1, _⟩ := hm
 subst e
 rw [hB] at h1
 cases h1
section
variable {w w' : World} {B : Nat} {p : Option Nat} {T : Rows10}
theorem Grp10.lt (h : Grp10 w B p T) : B < w.heap.size := (Array.getElem?_eq_some_iff.1 h.blk).1
theorem Grp10.mlt (h : Grp10 w B p T) : ∀ b, p = some b → b < w.heap.size := fun b hb => (h.map b hb).lt
theorem Grp10.slt (h : Grp10 w B p T) : ∀ x ∈ T, x.2.1 < w.heap.size := fun x hx => World.ownsMap.lt (h.sets x hx)
theorem Grp10.cell (h : Grp10 w B p T) : w.cell? ⟨B, 0, none⟩ = some (.map p) := by simp [World.cell?, h.blk]
theorem Grp10.frozen (h : Grp10 w B p T) : w.frozen? ⟨B, 0, none⟩ = false := by simp [World.frozen?, h.blk]
theorem Grp10.mne (h : Grp10 w B p T) : ∀ b, p = some b → b ≠ B := fun b hb => map_ne_cells10 (h.map b hb) h.blk
theorem Grp10.sne (h : Grp10 w B p T) : ∀ x ∈ T, x.2.1 ≠ B := fun x hx => map_ne_cells10 (h.sets x hx) h.blk
theorem Grp10.turns {S : Nat → Prop} (h : Grp10 w B p T) (ht : Turns S w w') (hB : ¬ S B) (hp : ∀ b, p = some b → ¬ S b) (hs : ∀ x ∈ T, ¬ S x.2.1) : Grp10 w' B p T := by
 refine ⟨(ht.block B h.lt hB).trans h.blk, h.nil, fun b hb => ?_, fun x hx => (h.sets x hx).kept (ht.block _ (h.slt x hx) (hs x hx)), h.one, h.off, h.rise⟩
 obtain ⟨es, clock, h1, r⟩ := h.map b hb
 exact ⟨es, clock, (ht.block b (h.mlt b hb) (hp b hb)).trans h1, r⟩
theorem Grp10.later (h : Grp10 w B p T) (hb : Below w.heap.size w w') : Grp10 w' B p T := h.turns (Turns.of_below hb (fun _ => False)) (fun f => f) (fun _ _ f => f) (fun _ _ f => f)

theorem look10 (h : Grp10 w B p T) (s : ByteArray) (hs : s.size ≤ maxLen) :
  (Instr.lookup 141 (.map p) (.string s) true).run Tryz.prog w = .ok (.tuple #[.map (blk10 T s.data.toList), .bool (hasV T s.data.toList)]) w := by
 cases p with
 | none =>
  have hL := h.nil rfl
  subst hL
  exact Maps.look_nil (P := Tryz.prog) (w := w) (t := 141) true keyed10 Tryz.underlying141 (zeros10 w) (key10 s hs)
 | some b =>
  obtain ⟨v, ps, hrun, hv⟩ := (h.map b rfl).look_ok keyed10 Tryz.underlying141 (zeros10 w) (show R10 (.map none) = some (.nil, []) from rfl) (key10 s hs)
  obtain ⟨o, rfl, ho⟩ := r10_inv hv
  rw [hrun, datV_has]
  have ho' : (datV eb10 T).atKey (.string s.data.toList) .nil = ob10 o := ho
  rw [at_blk10] at ho'
  rw [ob10_inj ho']
theorem len10 (h : Grp10 w B p T) (ty : TypeId) : (Builtin.len_ #[141] ty #[.map p]).run Tryz.prog w = .ok (.int .i64 T.length) w := by
 cases p with
 | none =>
  have hL := h.nil rfl
  subst hL
  exact Maps.len_nil Tryz.underlying141 ty
 | some b =>
  have := (h.map b rfl).len (t := 141) Tryz.underlying141 ty
  rwa [datV_size] at this
theorem nilmap10 (w : World) (p : Option Nat) : (binOp .eql 141 (.map p) (.map none)).run Tryz.prog w = .ok (.bool p.isNone) w :=
 run_eql_map_nil_sl w 141 _ _ p Tryz.underlying141
end

theorem plain10_has (T : Rows10) (k : List UInt8) : hasV (plain10 T) k = hasV T k := map_hasV (fun v : Nat × Set10 => v.2) T k
theorem plain10_names (T : Rows10) : names10 (plain10 T) = names10 T := map_names (fun v : Nat × Set10 => v.2) T
theorem plain10_len (T : Rows10) : (plain10 T).length = T.length := List.length_map _
theorem plain10_put (T : Rows10) (k : List UInt8) (v : Nat × Set10) : plain10 (putV T k v) = putV (plain10 T) k v.2 := map_putV (fun v : Nat × Set10 => v.2) T k v
theorem plain10_upd (f : Set10 → Set10) (T : Rows10) (k : List UInt8) : plain10 (updV (fun v => (v.1, f v.2)) T k) = updV f (plain10 T) k := by
 unfold plain10 updV
 rw [List.map_map, List.map_map]
 refine List.map_congr_left fun x _ => ?_
 show (let y := if x.1 = k then (x.1, (x.2.1, f x.2.2)) else x; (y.1, y.2.2)) = if x.1 = k then (x.1, f x.2.2) else (x.1, x.2.2)
 by_cases e : x.1 = k
 ·
  rw [if_pos e, if_pos e]
 ·
  rw [if_neg e, if_neg e]
theorem plain10_mem {T : Rows10} (hr : RiseV T) {x : List UInt8 × (Nat × Set10)} (hx : x ∈ T) : mem10 (plain10 T) x.1 = x.2.2 := by
 have h1 : RiseV (plain10 T) := riseV_names hr (plain10_names T)
 have h2 : (x.1, x.2.2) ∈ plain10 T := List.mem_map.2 ⟨x, hx, rfl⟩
 exact mem10_at h1 h2
theorem blk10_some {T : Rows10} (hr : RiseV T) {x : List UInt8 × (Nat × Set10)} (hx : x ∈ T) : blk10 T x.1 = some x.2.1 := by
 unfold blk10
 rw [(getV_some hr).2 (show (x.1, x.2) ∈ T from hx)]; rfl
theorem blk10_none {T : Rows10} {k : List UInt8} (h : hasV T k = false) : blk10 T k = none := by
 unfold blk10
 rw [getV_none.2 h]; rfl
theorem updV_mem {V : Type} {f : V → V} {L : RowV V} {k : List UInt8} {p : List UInt8 × V} (h : p ∈ updV f L k) : ∃ q ∈ L, p = (q.1, if q.1 = k then f q.2 else q.2) := by
 obtain ⟨q, hq, rfl⟩ := List.mem_map.1 h
 refine ⟨q, hq, ?_⟩
 by_cases e : q.1 = k
 ·
  rw [if_pos e, if_pos e]
 ·
  rw [if_neg e, if_neg e]
theorem Grp10.turned {w w' : World} {B : Nat} {p : Option Nat} {T : Rows10} (h : Grp10 w B p T) {x : List UInt8 × (Nat × Set10)} (hx : x ∈ T) (f : Set10 → Set10) (hs : Set10At w' x.2.1 (f x.2.2)) (ht : Turns (fun i => i = x.2.1) w w') : Grp10 w' B p (updV (fun v => (v.1, f v.2)) T x.1) := by
 have hbb : ∀ q ∈ T, (if q.1 = x.1 then (q.2.1, f q.2.2) else q.2).1 = q.2.1 := fun q _ => by split <;> rfl
 refine ⟨(ht.block B h.lt (fun e => h.sne x hx e.symm)).trans h.blk, fun e => ?_, fun b hb => ?_, fun y hy => ?_, fun y hy z hz e => ?_, fun y hy => ?_, riseV_upd h.rise _ _⟩
 ·
  rw [h.nil e] at hx; cases hx
 ·
  have e1 : datV eb10 (updV (fun v => (v.1, f v.2)) T x.1) = datV eb10 T := datV_upd (e := eb10) (f := fun v => (v.1, f v.2)) (fun _ => rfl) T x.1
  rw [e1, show (updV (fun v : Nat × Set10 => (v.1, f v.2)) T x.1).length = T.length from List.length_map _]
  obtain ⟨es, clock, h1, r⟩ := h.map b hb
  exact ⟨es, clock, (ht.block b (h.mlt b hb) (fun e => h.off x hx (by rw [hb, e]))).trans h1, r⟩
 ·
  obtain ⟨q, hq, rfl⟩ := updV_mem hy
  by_cases e : q.1 = x.1
  ·
   have := riseV_one h.rise hq hx e
   subst this
   simp only [if_true]
   exact hs
  ·
   simp only [e, if_false]
   exact (h.sets q hq).kept (ht.block _ (h.slt q hq) (fun e' => e (h.one q hq x hx e')))
 ·
  obtain ⟨q, hq, rfl⟩ := updV_mem hy
  obtain ⟨r, hr, rfl⟩ := updV_mem hz
  simp only [hbb q hq, hbb r hr] at e
  exact h.one q hq r hr e
 ·
  obtain ⟨q, hq, rfl⟩ := updV_mem hy
  simp only [hbb q hq]
  exact h.off q hq

def Turn10 (B : Nat) (p : Option Nat) (T : Rows10) (w w' : World) : Prop := Turns (fun i => i = B ∨ p = some i ∨ ∃ x ∈ T, x.2.1 = i) w w'
def Goes10 (w : World) (B : Nat) (p : Option Nat) (T : Rows10) (S' : Grs10) (w' : World) : Prop :=
 ∃ p' T', Grp10 w' B p' T' ∧ plain10 T' = S' ∧ (∀ b, p' = some b → p = some b ∨ w.heap.size ≤ b) ∧ (∀ x ∈ T', (∃ y ∈ T, y.2.1 = x.2.1) ∨ w.heap.size ≤ x.2.1) ∧ Turn10 B p T w w'
theorem Goes10.still {w w' : World} {B : Nat} {p : Option Nat} {T : Rows10} (h : Grp10 w B p T) (hb : Below w.heap.size w w') : Goes10 w B p T (plain10 T) w' :=
 ⟨p, T, h.later hb, rfl, fun _ e => .inl e, fun x hx => .inl ⟨x, hx, rfl⟩, Turns.of_below hb _⟩
theorem Goes10.ahead {w w1 w' : World} {B : Nat} {p : Option Nat} {T : Rows10} {S' : Grs10} (hb : Below w.heap.size w w1) (h : Goes10 w1 B p T S' w') : Goes10 w B p T S' w' := by
 obtain ⟨p', T', hd, hS, hp, hx, ht⟩ := h
 exact ⟨p', T', hd, hS, fun b e => (hp b e).imp id (fun h => Nat.le_trans hb.size h), fun x hh => (hx x hh).imp id (fun h => Nat.le_trans hb.size h), (Turns.of_below hb _).next ht (fun i _ h => h)⟩
theorem Goes10.behind {w w1 w' : World} {B : Nat} {p : Option Nat} {T : Rows10} {S' : Grs10} (h : Goes10 w B p T S' w1) (hb : Below w1.heap.size w1 w') : Goes10 w B p T S' w' := by
 obtain ⟨p', T', hd, hS, hp, hx, ht⟩ := h
 exact ⟨p', T', hd.later hb, hS, hp, hx, Turns.next ht (Turns.of_below hb (fun _ => False)) (fun _ _ f => f.elim)⟩
end Go.Proofs.YtmcomnocpibiiaaGreatDoor
namespace Go.Proofs.YtmcomnocpibiiaaGreatDoor
open Go.RowKit Go.Maps

set_option maxRecDepth 100000 in
theorem areNames1_calls (s : ByteArray) (w : World) (hs : s.size ≤ 9223372036854775807) :
  Calls Tryz.prog 209 #[.string s] w (Tells5 (!name5 s.data.toList) w) := by
 have HN := Lib.hid (Name_calls s w hs)
 cases hb : name5 s.data.toList with
 | false =>
  rw [hb] at HN
  have HN2 : Hid (Calls Tryz.prog 65 #[.string s] w (Errs5 10 w)) := HN.out
  clear HN hb
  go_enter Tryz.func209, Tryz.ntmps209
  go_wp2_with fail
  with_reducible refine HN2.out.mono ?_
  rintro e w1 ⟨rfl, hb⟩
  have HB := Lib.hid hb
  clear hb HN2
  go_wp2
  go_ret
  exact ⟨rfl, HB.out⟩
 | true =>
  rw [hb] at HN
  have HN2 : Hid (Calls Tryz.prog 65 #[.string s] w (Errs5 0 w)) := HN.out
  clear HN hb
  go_enter Tryz.func209, Tryz.ntmps209
  go_wp2_with fail
  with_reducible refine HN2.out.mono ?_
  rintro e w1 ⟨rfl, hb⟩
  have HB := Lib.hid hb
  clear hb HN2
  go_wp2
  go_ret
  exact ⟨rfl, HB.out⟩

set_option maxRecDepth 100000 in
theorem index10_one (g : Nat) (B : Nat) (s : ByteArray) (b : Bool) (w : World) (eg : ∀ args w, (callFunc g args).run Tryz.prog w = .ok (.enter g args) w) (hc : w.cell? ⟨B, 0, none⟩ = some (.string s)) (hp : Calls Tryz.prog g #[.string s] w (Tells5 b w)) :
  Calls Tryz.prog 148 #[.slice (some ⟨B, 0, none⟩) 1 1, .func (.func g) #[] #[]] w fun e w' => e = .returned (.int .i64 (if b then 0 else -1)) ∧ Below w.heap.size w w' := by
 have HP := Lib.hid hp
 clear hp
 cases b with
 | true =>
  go_enter Tryz.func148, Tryz.ntmps148
  go_wp2
  refine wp_loop_rounds 1 ?_
  rw [rounds_succ]
  go_wp2_with (go_at_fn g; (with_reducible refine HP.out.mono ?_); rintro e w1 ⟨rfl, hb⟩; have HB := Lib.hid hb; clear hb)
  go_ret
  exact ⟨rfl, HB.out⟩
 | false =>
  go_enter Tryz.func148, Tryz.ntmps148
  go_wp2
  refine wp_loop_rounds 2 ?_
  rw [rounds_succ]
  go_wp2_with (go_at_fn g; (with_reducible refine HP.out.mono ?_); rintro e w1 ⟨rfl, hb⟩; have HB := Lib.hid hb; clear hb)
  rw [rounds_succ]
  go_wp2
  go_ret
  exact ⟨rfl, HB.out⟩
set_option maxRecDepth 100000 in
theorem contains10_one (g : Nat) (B : Nat) (s : ByteArray) (b : Bool) (w : World) (eg : ∀ args w, (callFunc g args).run Tryz.prog w = .ok (.enter g args) w) (hc : w.cell? ⟨B, 0, none⟩ = some (.string s)) (hp : Calls Tryz.prog g #[.string s] w (Tells5 b w)) :
  Calls Tryz.prog 208 #[.slice (some ⟨B, 0, none⟩) 1 1, .func (.func g) #[] #[]] w (Tells5 b w) := by
 have HP := Lib.hid (index10_one g B s b w eg hc hp)
 clear hp hc
 cases b with
 | true =>
  go_enter Tryz.func208, Tryz.ntmps208
  go_wp2_with fail
  with_reducible refine HP.out.mono ?_
  rintro e w1 ⟨rfl, hb⟩
  have HB := Lib.hid hb
  clear hb HP
  go_wp2
  go_ret
  exact ⟨rfl, HB.out⟩
 | false =>
  go_enter Tryz.func208, Tryz.ntmps208
  go_wp2_with fail
  with_reducible refine HP.out.mono ?_
  rintro e w1 ⟨rfl, hb⟩
  have HB := Lib.hid hb
  clear hb HP
  go_wp2
  go_ret
  exact ⟨rfl, HB.out⟩
set_option maxRecDepth 100000 in
theorem areNames_one (B : Nat) (s : ByteArray) (w : World) (hs : s.size ≤ 9223372036854775807) (hc : w.cell? ⟨B, 0, none⟩ = some (.string s)) : Calls Tryz.prog 156 #[.slice (some ⟨B, 0, none⟩) 1 1] w (Tells5 (name5 s.data.toList) w) := by
 have HP := Lib.hid (contains10_one _ B s _ w (enters_of Tryz.func209 (by kernel_rfl) rfl) hc (areNames1_calls s w hs))
 clear hc
 generalize name5 s.data.toList = b at *
 cases b with
 | true =>
  go_enter Tryz.func156, Tryz.ntmps156
  go_wp2_with fail
  with_reducible refine HP.out.mono ?_
  rintro e w1 ⟨rfl, hb⟩
  have HB := Lib.hid hb
  clear hb HP
  go_wp2
  go_ret
  exact ⟨rfl, HB.out⟩
 | false =>
  go_enter Tryz.func156, Tryz.ntmps156
  go_wp2_with fail
  with_reducible refine HP.out.mono ?_
  rintro e w1 ⟨rfl, hb⟩
  have HB := Lib.hid hb
  clear hb HP
  go_wp2
  go_ret
  exact ⟨rfl, HB.out⟩

/-! ### has -/
set_option maxRecDepth 100000 in
theorem hasfn_calls (s : ByteArray) (w : World) : Calls Tryz.prog 190 #[.string s] w fun e w' => e = .returned (.func (.func 218) #[] #[.pointer (some ⟨w.heap.size, 0, none⟩)]) ∧ w' = w.alloc (.cells #[.string s] 9) := by
 have hmf := mkf
 go_enter Tryz.func190, Tryz.ntmps190
 go_wp2
 go_ret
 exact ⟨rfl, rfl⟩
set_option maxRecDepth 100000 in
theorem has1_calls (C b : Nat) (L : Set10) (s : ByteArray) (w : World) (hs : s.size ≤ maxLen) (hc : w.cell? ⟨C, 0, none⟩ = some (.string s)) (h : Set10At w b L) : Calls Tryz.prog 218 #[.map (some b), .pointer (some ⟨C, 0, none⟩)] w fun e w' => e = .returned (.bool (hasV L s.data.toList)) ∧ w' = w := by
 have hl := has10 h s hs
 generalize hasV L s.data.toList = r at *
 clear h
 go_enter Tryz.func218, Tryz.ntmps218
 go_wp2
 go_ret
 exact ⟨rfl, rfl⟩

/-! ### every -/
set_option maxRecDepth 100000 in
theorem indexs10_none (fv : Value) (w : World) : Calls Tryz.prog 249 #[.slice none 0 0, fv] w fun e w' => e = .returned (.int .i64 (-1)) ∧ w' = w := by
 go_enter Tryz.func249, Tryz.ntmps249
 go_wp2
 refine wp_loop_rounds 1 ?_
 rw [rounds_succ]
 go_wp2
 go_ret
 exact ⟨rfl, rfl⟩
set_option maxRecDepth 100000 in
theorem indexs10_one (g : Nat) (B C : Nat) (f : Value) (b : Bool) (w : World) (eg : ∀ args w, (callFunc g args).run Tryz.prog w = .ok (.enter g args) w) (hc : w.cell? ⟨B, 0, none⟩ = some f) (hp : Calls Tryz.prog g #[f, .pointer (some ⟨C, 0, none⟩)] w (Tells5 b w)) :
  Calls Tryz.prog 249 #[.slice (some ⟨B, 0, none⟩) 1 1, .func (.func g) #[] #[.pointer (some ⟨C, 0, none⟩)]] w fun e w' => e = .returned (.int .i64 (if b then 0 else -1)) ∧ Below w.heap.size w w' := by
 have HP := Lib.hid hp
 clear hp
 cases b with
 | true =>
  go_enter Tryz.func249, Tryz.ntmps249
  go_wp2
  refine wp_loop_rounds 1 ?_
  rw [rounds_succ]
  go_wp2_with (go_at_fn g; (with_reducible refine HP.out.mono ?_); rintro e w1 ⟨rfl, hb⟩; have HB := Lib.hid hb; clear hb)
  go_ret
  exact ⟨rfl, HB.out⟩
 | false =>
  go_enter Tryz.func249, Tryz.ntmps249
  go_wp2
  refine wp_loop_rounds 2 ?_
  rw [rounds_succ]
  go_wp2_with (go_at_fn g; (with_reducible refine HP.out.mono ?_); rintro e w1 ⟨rfl, hb⟩; have HB := Lib.hid hb; clear hb)
  rw [rounds_succ]
  go_wp2
  go_ret
  exact ⟨rfl, HB.out⟩
set_option maxRecDepth 100000 in
theorem containss10_none (fv : Value) (w : World) : Calls Tryz.prog 232 #[.slice none 0 0, fv] w fun e w' => e = .returned (.bool false) ∧ w' = w := by
 have HP := Lib.hid (indexs10_none fv w)
 go_enter Tryz.func232, Tryz.ntmps232
 go_wp2_with fail
 with_reducible refine HP.out.mono ?_
 rintro e w1 ⟨rfl, rfl⟩
 go_wp2
 go_ret
 exact ⟨rfl, rfl⟩
set_option maxRecDepth 100000 in
theorem containss10_one (g : Nat) (B C : Nat) (f : Value) (b : Bool) (w : World) (eg : ∀ args w, (callFunc g args).run Tryz.prog w = .ok (.enter g args) w) (hc : w.cell? ⟨B, 0, none⟩ = some f) (hp : Calls Tryz.prog g #[f, .pointer (some ⟨C, 0, none⟩)] w (Tells5 b w)) :
  Calls Tryz.prog 232 #[.slice (some ⟨B, 0, none⟩) 1 1, .func (.func g) #[] #[.pointer (some ⟨C, 0, none⟩)]] w (Tells5 b w) := by
 have HP := Lib.hid (indexs10_one g B C f b w eg hc hp)
 clear hp hc
 cases b with
 | true =>
  go_enter Tryz.func232, Tryz.ntmps232
  go_wp2_with fail
  with_reducible refine HP.out.mono ?_
  rintro e w1 ⟨rfl, hb⟩
  have HB := Lib.hid hb
  clear hb HP
  go_wp2
  go_ret
  exact ⟨rfl, HB.out⟩
 | false =>
  go_enter Tryz.func232, Tryz.ntmps232
  go_wp2_with fail
  with_reducible refine HP.out.mono ?_
  rintro e w1 ⟨rfl, hb⟩
  have HB := Lib.hid hb
  clear hb HP
  go_wp2
  go_ret
  exact ⟨rfl, HB.out⟩
set_option maxRecDepth 100000 in
theorem everys_none (p : Option Nat) (w : World) : Calls Tryz.prog 217 #[.map p, .slice none 0 0] w (Tells5 true w) := by
 have hmf := mkf
 have HP : Hid (∀ fv W, Calls Tryz.prog 232 #[.slice none 0 0, fv] W fun e w' => e = .returned (.bool false) ∧ w' = W) := containss10_none
 have HB := Lib.hid (below_alloc (Below.refl w.heap.size w) (.cells #[.map p] 171))
 go_enter Tryz.func217, Tryz.ntmps217
 go_wp2_with fail
 with_reducible refine (HP.out _ _).mono ?_
 rintro e w1 ⟨rfl, rfl⟩
 go_wp2
 go_ret
 exact ⟨rfl, HB.out⟩
set_option maxRecDepth 100000 in
theorem everys1_calls (C D b : Nat) (L : Set10) (s : ByteArray) (w : World) (hs : s.size ≤ maxLen) (hC : w.cell? ⟨C, 0, none⟩ = some (.string s)) (hD : w.cell? ⟨D, 0, none⟩ = some (.map (some b))) (h : Set10At w b L) :
  Calls Tryz.prog 233 #[.func (.func 218) #[] #[.pointer (some ⟨C, 0, none⟩)], .pointer (some ⟨D, 0, none⟩)] w (Tells5 (!hasV L s.data.toList) w) := by
 have eg : ∀ args w, (callFunc 218 args).run Tryz.prog w = .ok (.enter 218 args) w := enters_of Tryz.func218 (by kernel_rfl) rfl
 have HP : Hid (Calls Tryz.prog 218 #[.map (some b), .pointer (some ⟨C, 0, none⟩)] w (Tells5 (hasV L s.data.toList) w)) := (has1_calls C b L s w hs hC h).mono fun e w' ⟨he, hw⟩ => ⟨he, by rw [hw]; exact Below.refl _ _⟩
 clear hC h
 generalize hasV L s.data.toList = r at *
 cases r with
 | true =>
  show Calls _ _ _ _ (Tells5 false w)
  go_enter Tryz.func233, Tryz.ntmps233
  go_wp2_with (go_at_fn 218; (with_reducible refine HP.out.mono ?_); rintro e w1 ⟨rfl, hb⟩; have HB := Lib.hid hb; clear hb)
  go_ret
  exact ⟨rfl, HB.out⟩
 | false =>
  show Calls _ _ _ _ (Tells5 true w)
  go_enter Tryz.func233, Tryz.ntmps233
  go_wp2_with (go_at_fn 218; (with_reducible refine HP.out.mono ?_); rintro e w1 ⟨rfl, hb⟩; have HB := Lib.hid hb; clear hb)
  go_ret
  exact ⟨rfl, HB.out⟩
set_option maxRecDepth 100000 in
theorem everys_one (A C b : Nat) (L : Set10) (s : ByteArray) (w : World) (hs : s.size ≤ maxLen) (hA : w.cell? ⟨A, 0, none⟩ = some (.func (.func 218) #[] #[.pointer (some ⟨C, 0, none⟩)])) (hC : w.cell? ⟨C, 0, none⟩ = some (.string s)) (h : Set10At w b L) :
  Calls Tryz.prog 217 #[.map (some b), .slice (some ⟨A, 0, none⟩) 1 1] w (Tells5 (hasV L s.data.toList) w) := by
 have hmf := mkf
 have hb := below_alloc (Below.refl w.heap.size w) (.cells #[.map (some b)] 171)
 have lA : A < w.heap.size := World.block_lt_of_cell? w _ hA
 have lC : C < w.heap.size := World.block_lt_of_cell? w _ hC
 have cA := (hb.cell (p := ⟨A, 0, none⟩) lA).trans hA
 have cC := (hb.cell (p := ⟨C, 0, none⟩) lC).trans hC
 have cD : (w.alloc (.cells #[.map (some b)] 171)).cell? ⟨w.heap.size, 0, none⟩ = some (.map (some b)) := by rw [World.cell?_alloc_at _ _ _ _ rfl]; rfl
 have HP := Lib.hid (containss10_one _ A w.heap.size _ _ _ (enters_of Tryz.func233 (by kernel_rfl) rfl) cA (everys1_calls C w.heap.size b L s _ hs cC cD (h.kept (hb.block b (World.ownsMap.lt h)))))
 have HB := Lib.hid hb
 clear hb cA cC cD h hA hC lA lC
 generalize hasV L s.data.toList = r at *
 cases r with
 | true =>
  go_enter Tryz.func217, Tryz.ntmps217
  go_wp2_with fail
  with_reducible refine HP.out.mono ?_
  rintro e w1 ⟨rfl, hb1⟩
  have HB1 := Lib.hid (below_next HB.out hb1)
  clear hb1 HP
  go_wp2
  go_ret
  exact ⟨rfl, HB1.out⟩
 | false =>
  go_enter Tryz.func217, Tryz.ntmps217
  go_wp2_with fail
  with_reducible refine HP.out.mono ?_
  rintro e w1 ⟨rfl, hb1⟩
  have HB1 := Lib.hid (below_next HB.out hb1)
  clear hb1 HP
  go_wp2
  go_ret
  exact ⟨rfl, HB1.out⟩
end Go.Proofs.YtmcomnocpibiiaaGreatDoor
namespace Go.Proofs.YtmcomnocpibiiaaGreatDoor
open Go.RowKit Go.Maps

set_option maxRecDepth 100000 in
theorem sclone10_calls (s : ByteArray) (w : World) (hl : s.size ≤ 1000) : Calls Tryz.prog 115 #[.string s] w fun e w' => e = .returned (.string s) ∧ Below w.heap.size w w' := by
 have HC := Lib.hid (Tryz.stringslite_Clone s w (Nat.le_trans hl (by decide)))
 go_enter Tryz.func115, Tryz.ntmps115
 go_wp2_with fail
 with_reducible refine HC.out.mono ?_
 rintro e w1 ⟨rfl, hb⟩
 have HB := Lib.hid hb
 clear hb
 go_wp2
 go_ret
 exact ⟨rfl, HB.out⟩
end Go.Proofs.YtmcomnocpibiiaaGreatDoor
namespace Go.Proofs.YtmcomnocpibiiaaGreatDoor
open Go.RowKit Go.Maps

set_option maxRecDepth 100000 in
theorem setadd10_calls (b : Nat) (L : Set10) (s : ByteArray) (w : World) (h : Set10At w b L) (hf : L.length ≤ 1000) (hs : s.size ≤ 1000) :
  Calls Tryz.prog 182 #[.map (some b), .string s] w fun e w' => e = .returned (.tuple #[]) ∧ Set10At w' b (putV L s.data.toList ()) ∧ Turns (fun i => i = b) w w' := by
 have HC := Lib.hid (sclone10_calls s w hs)
 have HA : Hid (∀ W, Below w.heap.size w W → ∃ w', (Instr.mapUpdate 171 (.map (some b)) (.string s) (.bool true)).run Tryz.prog W = .ok () w' ∧ Set10At w' b (putV L s.data.toList ()) ∧ Turns (fun i => i = b) w w') := fun W hb => by
  obtain ⟨w', h1, h2, h3⟩ := add10 (h.kept (hb.block b (World.ownsMap.lt h))) hf s (Nat.le_trans hs (by decide))
  exact ⟨w', h1, h2, (Turns.of_below hb _).grown h3.grown (fun k hk _ => by cases hk; rfl)⟩
 clear h
 go_enter Tryz.func182, Tryz.ntmps182
 go_wp2_with fail
 with_reducible refine HC.out.mono ?_
 rintro e w1 ⟨rfl, hb⟩
 obtain ⟨w2, hrun, h2, h3⟩ := HA.out w1 hb
 have H2 := Lib.hid h2
 have H3 := Lib.hid h3
 clear hb h2 h3 HA HC
 go_wp2
 go_end0
 exact ⟨rfl, H2.out, H3.out⟩

set_option maxRecDepth 100000 in
theorem new10_calls (w : World) : Calls Tryz.prog 44 #[] w fun e w' => e = .returned (.pointer (some ⟨w.heap.size, 0, none⟩)) ∧ w' = w.alloc (.cells #[.map none] 143) := by
 go_enter Tryz.func44, Tryz.ntmps44
 go_wp2
 go_ret
 exact ⟨rfl, rfl⟩
theorem grp10_new (w : World) : Grp10 (w.alloc (.cells #[.map none] 143)) w.heap.size none [] :=
 ⟨(MapKept.heap_alloc w _).1, (fun _ => rfl), (fun _ h => nomatch h), (fun _ h => nomatch h), (fun _ h => nomatch h), (fun _ h => nomatch h), List.Pairwise.nil⟩

def PutTo10 (w : World) (B : Nat) (p : Option Nat) (T' : Rows10) (w' : World) : Prop :=
 ∃ p', Grp10 w' B p' T' ∧ (∀ c, p' = some c → p = some c ∨ w.heap.size ≤ c) ∧ Turns (fun i => i = B ∨ p = some i) w w'
theorem grp10_stored {w w' : World} {B m b : Nat} {T : Rows10} {l : Set10} {k : List UInt8} {n : Nat} (h : Grp10 w B (some m) T) (hs : Set10At w b l) (hn : ∀ x ∈ T, x.2.1 ≠ b) (hm : m ≠ b) (ht : w.mapTurned w' m)
  (hown : w'.ownsMap Tryz.prog 9 R10 m n (datV eb10 (putV T k (b, l)))) : Grp10 w' B (some m) (putV T k (b, l)) := by
 have htn : Turns (fun i => i = m) w w' := (Turns.refl _ w).grown ht.grown (fun k hk _ => by cases hk; rfl)
 refine ⟨(htn.block B h.lt (fun e => h.mne m rfl e.symm)).trans h.blk, (fun e => nomatch e), fun c hc => ?_, fun x hx => ?_, fun x hx y hy e => ?_, fun x hx => ?_, riseV_put h.rise _ _⟩
 ·
  cases hc
  have := ownsMap_tight10 hown
  rwa [datV_size] at this
 ·
  rcases mem_putV.1 hx with rfl | ⟨hx, _⟩
  ·
   exact hs.kept (htn.block b (World.ownsMap.lt hs) (fun e => hm e.symm))
  ·
   exact (h.sets x hx).kept (htn.block _ (h.slt x hx) (fun e => h.off x hx (by rw [e])))
 ·
  rcases mem_putV.1 hx with rfl | ⟨hx, _⟩ <;> rcases mem_putV.1 hy with rfl | ⟨hy, _⟩
  ·
   rfl
  ·
   exact absurd e.symm (hn y hy)
  ·
   exact absurd e (hn x hx)
  ·
   exact h.one x hx y hy e
 ·
  rcases mem_putV.1 hx with rfl | ⟨hx, _⟩
  ·
   intro e; injection e with e; exact hm e
  ·
   exact h.off x hx
theorem grp10_store {w : World} {B m b : Nat} {T : Rows10} {l : Set10} (h : Grp10 w B (some m) T) (hs : Set10At w b l) (hn : ∀ x ∈ T, x.2.1 ≠ b) (hm : m ≠ b) (hf : T.length ≤ 1000) (g : ByteArray) (hg : g.size ≤ maxLen) :
  ∃ w', (Instr.mapUpdate 141 (.map (some m)) (.string g) (.map (some b))).run Tryz.prog w = .ok () w' ∧ Grp10 w' B (some m) (putV T g.data.toList (b, l)) ∧ Turns (fun i => i = m) w w' := by
 obtain ⟨w', hrun, hown, ht⟩ := (h.map m rfl).store keyed10 Tryz.underlying141 (Nat.lt_of_le_of_lt hf (by decide)) (key10 g hg) (show R10 (.map (some b)) = some (.lit (.int .i64 b), []) from rfl)
 have e : datV eb10 (putV T g.data.toList (b, l)) = (datV eb10 T).put (.string g.data.toList) (.lit (.int .i64 b)) := (datV_put eb10 T _ (b, l)).symm
 exact ⟨w', hrun, grp10_stored h hs hn hm ht (by rw [e]; exact hown), (Turns.refl _ w).grown ht.grown (fun k hk _ => by cases hk; rfl)⟩

def YP10 (B m b : Nat) (g : ByteArray) : Nat → Value → Prop
 | 3, v => v = .map (some m)
 | 4, v => v = .string g
 | 5, v => v = .string g
 | 6, v => v = .map (some b)
 | _, v => v = .pointer (some ⟨B, 0, none⟩)
def YPut10 (B m b : Nat) (g : ByteArray) (j : Nat) (v : Value) (_ : World) : Prop := YP10 B m b g j v

set_option maxRecDepth 100000 in
set_option maxHeartbeats 1000000 in
theorem put10_some (B m b : Nat) (T : Rows10) (l : Set10) (g : ByteArray) (w : World) (h : Grp10 w B (some m) T) (hs : Set10At w b l) (hn : ∀ x ∈ T, x.2.1 ≠ b) (hm : m ≠ b) (hf : T.length ≤ 1000) (hg : g.size ≤ 1000) :
  Calls Tryz.prog 157 #[.pointer (some ⟨B, 0, none⟩), .string g, .map (some b)] w fun e w' => e = .returned (.tuple #[]) ∧ PutTo10 w B (some m) (putV T g.data.toList (b, l)) w' := by
 have HC : Hid (∀ W, Calls Tryz.prog 115 #[.string g] W fun e w' => e = .returned (.string g) ∧ Below W.heap.size W w') := fun W => sclone10_calls g W hg
 have hq := nilmap10 w (some m)
 have hc := h.cell
 have HG1 := Lib.hid h
 have HST : Hid (∀ W, Below w.heap.size w W → ∃ w', (Instr.mapUpdate 141 (.map (some m)) (.string g) (.map (some b))).run Tryz.prog W = .ok () w' ∧ PutTo10 w B (some m) (putV T g.data.toList (b, l)) w') := fun W hb => by
  obtain ⟨w', h1, h2, h3⟩ := grp10_store (h.later hb) (hs.kept (hb.block b (World.ownsMap.lt hs))) hn hm hf g (Nat.le_trans hg (by decide))
  exact ⟨w', h1, some m, h2, (fun _ e => .inl e), (Turns.of_below hb _).next h3 (fun i _ e => .inr (by rw [e]))⟩
 clear h hs hn hm hf
 go_enter Tryz.func157, Tryz.ntmps157
 go_wp2_with fail

 refine wp_region_last (by kernel_rfl) 7 (fun W => Below w.heap.size w W) (fun W => PutTo10 w B (some m) (putV T g.data.toList (b, l)) W) (YPut10 B m b g) (fun _ => True) ?F ?hF (by kernel_rfl) (by kernel_rfl) (by kernel_rfl) (by kernel_rfl) (by decide) (below_drew (Below.refl _ _)) ?step ?fin
 case hF =>
  intro x
  simp only [List.map_cons, List.map_nil, putL, Act.put, List.setIfInBounds_toArray, List.set_cons_zero, List.set_cons_succ, Nat.zero_add, Nat.reduceAdd]
  exact rfl
 case step =>
  refine ⟨?_, ?_, ?_, ?_, ?_, ?_, ?_, ?_, trivial⟩
  ·
   intro x W
   refine ⟨fun _ hW hdep K hK => ?_, (fun h => absurd h (by decide)), (fun h => absurd h (by decide))⟩
   clear hdep
   go_simp
   exact hK _ _ rfl hW (fun _ _ h => h)
  ·
   intro x W
   refine ⟨fun _ hW hdep K hK => ?_, (fun h => absurd h (by decide)), (fun h => absurd h (by decide))⟩
   have h0 : x 0 = _ := hdep 0 rfl
   clear hdep
   simp only [h0] at hK
   go_simp
   exact hK _ _ rfl hW (fun _ _ h => h)
  ·
   intro x W
   refine ⟨fun _ hW hdep K hK => ?_, (fun h => absurd h (by decide)), (fun h => absurd h (by decide))⟩
   have h1 : x 1 = _ := hdep 1 rfl
   clear hdep
   simp only [h1] at hK
   go_simp
   exact hK _ _ rfl hW (fun _ _ h => h)
  ·
   intro x W
   refine ⟨fun _ hW hdep K hK => ?_, (fun h => absurd h (by decide)), (fun h => absurd h (by decide))⟩
   have h2 : x 2 = _ := hdep 2 rfl
   have c := (HG1.out.later hW).cell
   clear hdep
   simp only [h2] at hK
   go_simp
   exact hK _ _ rfl hW (fun _ _ h => h)
  ·
   intro x W
   refine ⟨fun _ hW hdep K hK => ?_, (fun h => absurd h (by decide)), (fun h => absurd h (by decide))⟩
   clear hdep
   go_simp
   exact hK _ _ rfl hW (fun _ _ h => h)
  ·
   intro x W
   refine ⟨fun _ hW hdep K hK => ?_, (fun h => absurd h (by decide)), (fun h => absurd h (by decide))⟩
   have h4 : x 4 = _ := hdep 4 rfl
   have hc := HC.out W
   clear hdep
   simp only [h4] at hK
   go_simp
   refine hc.mono ?_
   rintro e W' ⟨rfl, hb⟩
   exact hK _ _ rfl (below_next hW hb) (fun _ _ h => h)
  ·
   intro x W
   refine ⟨fun _ hW hdep K hK => ?_, (fun h => absurd h (by decide)), (fun h => absurd h (by decide))⟩
   clear hdep
   go_simp
   exact hK _ _ rfl hW (fun _ _ h => h)
  ·
   intro x W
   refine ⟨(fun h => absurd h (by decide)), fun _ hW hdep K hK => ?_, (fun h => absurd h (by decide))⟩
   have h3 : x 3 = _ := hdep 3 rfl
   have h5 : x 5 = _ := hdep 5 rfl
   have h6 : x 6 = _ := hdep 6 rfl
   obtain ⟨w', hrun, hg⟩ := HST.out W hW
   clear hdep
   simp only [h3, h5, h6] at hK
   go_simp
   exact hK undef _ trivial hg
 case fin =>
  intro x W hW _
  have HF := Lib.hid hW
  clear hW HG1 HST HC
  go_end0
  exact ⟨rfl, HF.out⟩

set_option maxRecDepth 100000 in
set_option maxHeartbeats 1000000 in
theorem put10_none (B b : Nat) (l : Set10) (g : ByteArray) (w : World) (h : Grp10 w B none []) (hs : Set10At w b l) (hg : g.size ≤ 1000) :
  Calls Tryz.prog 157 #[.pointer (some ⟨B, 0, none⟩), .string g, .map (some b)] w fun e w' => e = .returned (.tuple #[]) ∧ PutTo10 w B none (putV [] g.data.toList (b, l)) w' := by
 have HC : Hid (∀ W, Calls Tryz.prog 115 #[.string g] W fun e w' => e = .returned (.string g) ∧ Below W.heap.size W w') := fun W => sclone10_calls g W hg
 have hq := nilmap10 w none
 have hc := h.cell
 have hf0 := h.frozen
 have hBl := h.lt
 have hmm := @run_makeMap Tryz.prog
 have hbl : b < w.heap.size := World.ownsMap.lt hs
 have hbB : b ≠ B := map_ne_cells10 hs h.blk
 have hsz : (w.setCell ⟨B, 0, none⟩ (.map (some w.heap.size))).heap.size = w.heap.size := by simp [World.setCell]
 have hblk1 := heap_setCell_box_a (.map (some w.heap.size)) h.blk
 have hblk2 : ((w.setCell ⟨B, 0, none⟩ (.map (some w.heap.size))).alloc (.map #[] 0)).heap[B]? = some (.cells #[.map (some w.heap.size)] 143 (0, 0)) := (Below.heap_alloc _ _ B (by omega)).trans hblk1
 have hown := World.ownsMap_made (H := Unit) (w.setCell ⟨B, 0, none⟩ (.map (some w.heap.size))) Tryz.prog 9 R10
 rw [hsz] at hown
 have ht1 : Turns (fun i => i = B ∨ (none : Option Nat) = some i) w ((w.setCell ⟨B, 0, none⟩ (.map (some w.heap.size))).alloc (.map #[] 0)) := ((Turns.refl _ w).setCell (p := ⟨B, 0, none⟩) (fun _ => .inl rfl) _).alloc _
 have hG : Grp10 ((w.setCell ⟨B, 0, none⟩ (.map (some w.heap.size))).alloc (.map #[] 0)) B (some w.heap.size) [] := by
  refine ⟨hblk2, (fun e => nomatch e), fun c hc => ?_, (fun _ h => nomatch h), (fun _ h => nomatch h), (fun _ h => nomatch h), List.Pairwise.nil⟩
  cases hc
  exact hown
 have hs1 : Set10At ((w.setCell ⟨B, 0, none⟩ (.map (some w.heap.size))).alloc (.map #[] 0)) b l := hs.kept (ht1.block b hbl (by rintro (e | e); exact hbB e; cases e))
 have HG1 := Lib.hid hG
 have HST : Hid (∀ W, Below ((w.setCell ⟨B, 0, none⟩ (.map (some w.heap.size))).alloc (.map #[] 0)).heap.size ((w.setCell ⟨B, 0, none⟩ (.map (some w.heap.size))).alloc (.map #[] 0)) W → ∃ w', (Instr.mapUpdate 141 (.map (some w.heap.size)) (.string g) (.map (some b))).run Tryz.prog W = .ok () w' ∧ PutTo10 w B none (putV [] g.data.toList (b, l)) w') := fun W hb => by
  obtain ⟨w', h1, h2, h3⟩ := grp10_store (hG.later hb) (hs1.kept (hb.block b (World.ownsMap.lt hs1))) (fun _ h => nomatch h) (by omega) (by simp) g (Nat.le_trans hg (by decide))
  refine ⟨w', h1, some w.heap.size, h2, (fun c e => .inr (by cases e; exact Nat.le_refl _)), (ht1.next (Turns.of_below hb (fun _ => False)) (fun _ _ f => f.elim)).next h3 (fun i hi e => ?_)⟩
  omega
 obtain ⟨hc2, hf2⟩ := cell_of_box_a hblk2
 clear h hs hs1 hG hown hblk1 hblk2 ht1 hbl hbB hsz
 go_enter Tryz.func157, Tryz.ntmps157
 go_wp2_with fail
 generalize (w.setCell ⟨B, 0, none⟩ (.map (some w.heap.size))).alloc (.map #[] 0) = w1 at *

 refine wp_region_last (by kernel_rfl) 7 (fun W => Below w1.heap.size w1 W) (fun W => PutTo10 w B none (putV [] g.data.toList (b, l)) W) (YPut10 B w.heap.size b g) (fun _ => True) ?F ?hF (by kernel_rfl) (by kernel_rfl) (by kernel_rfl) (by kernel_rfl) (by decide) (below_drew (Below.refl _ _)) ?step ?fin
 case hF =>
  intro x
  simp only [List.map_cons, List.map_nil, putL, Act.put, List.setIfInBounds_toArray, List.set_cons_zero, List.set_cons_succ, Nat.zero_add, Nat.reduceAdd]
  exact rfl
 case step =>
  refine ⟨?_, ?_, ?_, ?_, ?_, ?_, ?_, ?_, trivial⟩
  ·
   intro x W
   refine ⟨fun _ hW hdep K hK => ?_, (fun h => absurd h (by decide)), (fun h => absurd h (by decide))⟩
   clear hdep
   go_simp
   exact hK _ _ rfl hW (fun _ _ h => h)
  ·
   intro x W
   refine ⟨fun _ hW hdep K hK => ?_, (fun h => absurd h (by decide)), (fun h => absurd h (by decide))⟩
   have h0 : x 0 = _ := hdep 0 rfl
   clear hdep
   simp only [h0] at hK
   go_simp
   exact hK _ _ rfl hW (fun _ _ h => h)
  ·
   intro x W
   refine ⟨fun _ hW hdep K hK => ?_, (fun h => absurd h (by decide)), (fun h => absurd h (by decide))⟩
   have h1 : x 1 = _ := hdep 1 rfl
   clear hdep
   simp only [h1] at hK
   go_simp
   exact hK _ _ rfl hW (fun _ _ h => h)
  ·
   intro x W
   refine ⟨fun _ hW hdep K hK => ?_, (fun h => absurd h (by decide)), (fun h => absurd h (by decide))⟩
   have h2 : x 2 = _ := hdep 2 rfl
   have c := (HG1.out.later hW).cell
   clear hdep
   simp only [h2] at hK
   go_simp
   exact hK _ _ rfl hW (fun _ _ h => h)
  ·
   intro x W
   refine ⟨fun _ hW hdep K hK => ?_, (fun h => absurd h (by decide)), (fun h => absurd h (by decide))⟩
   clear hdep
   go_simp
   exact hK _ _ rfl hW (fun _ _ h => h)
  ·
   intro x W
   refine ⟨fun _ hW hdep K hK => ?_, (fun h => absurd h (by decide)), (fun h => absurd h (by decide))⟩
   have h4 : x 4 = _ := hdep 4 rfl
   have hc := HC.out W
   clear hdep
   simp only [h4] at hK
   go_simp
   refine hc.mono ?_
   rintro e W' ⟨rfl, hb⟩
   exact hK _ _ rfl (below_next hW hb) (fun _ _ h => h)
  ·
   intro x W
   refine ⟨fun _ hW hdep K hK => ?_, (fun h => absurd h (by decide)), (fun h => absurd h (by decide))⟩
   clear hdep
   go_simp
   exact hK _ _ rfl hW (fun _ _ h => h)
  ·
   intro x W
   refine ⟨(fun h => absurd h (by decide)), fun _ hW hdep K hK => ?_, (fun h => absurd h (by decide))⟩
   have h3 : x 3 = _ := hdep 3 rfl
   have h5 : x 5 = _ := hdep 5 rfl
   have h6 : x 6 = _ := hdep 6 rfl
   obtain ⟨w', hrun, hg⟩ := HST.out W hW
   clear hdep
   simp only [h3, h5, h6] at hK
   go_simp
   exact hK undef _ trivial hg
 case fin =>
  intro x W hW _
  have HF := Lib.hid hW
  clear hW HG1 HST HC
  go_end0
  exact ⟨rfl, HF.out⟩

theorem put10_calls (B b : Nat) (p : Option Nat) (T : Rows10) (l : Set10) (g : ByteArray) (w : World) (h : Grp10 w B p T) (hs : Set10At w b l) (hn : ∀ x ∈ T, x.2.1 ≠ b) (hm : p ≠ some b) (hf : T.length ≤ 1000) (hg : g.size ≤ 1000) :
  Calls Tryz.prog 157 #[.pointer (some ⟨B, 0, none⟩), .string g, .map (some b)] w fun e w' => e = .returned (.tuple #[]) ∧ PutTo10 w B p (putV T g.data.toList (b, l)) w' := by
 cases p with
 | none =>
  have := h.nil rfl
  subst this
  exact put10_none B b l g w h hs hg
 | some m => exact put10_some B m b T l g w h hs hn (fun e => hm (by rw [e])) hf hg


set_option maxRecDepth 100000 in
set_option maxHeartbeats 1000000 in
theorem find10_one (B : Nat) (p : Option Nat) (T : Rows10) (g : ByteArray) (A : Nat) (n : ByteArray) (w : World) (h : Grp10 w B p T) (hg : g.size ≤ 9223372036854775807) (hn : n.size ≤ 9223372036854775807) (hA : w.cell? ⟨A, 0, none⟩ = some (.string n)) :
  Calls Tryz.prog 153 #[.pointer (some ⟨B, 0, none⟩), .string g, .slice (some ⟨A, 0, none⟩) 1 1] w fun e w' => e = .returned (.tuple #[.map (if findE10 (plain10 T) g.data.toList [n.data.toList] = 0 then blk10 T g.data.toList else none), .int .i64 (findE10 (plain10 T) g.data.toList [n.data.toList])]) ∧ Below w.heap.size w w' := by
 have HI := Lib.hid h
 have hb0 : Below w.heap.size w (w.alloc (.cells #[.string g] 9)) := below_alloc (Below.refl _ _) _
 have HN := Lib.hid (areNames_one w.heap.size g _ hg (show (w.alloc (.cells #[.string g] 9)).cell? ⟨w.heap.size, 0, none⟩ = some (.string g) by rw [World.cell?_alloc_at _ _ _ _ rfl]; rfl))
 have HB0 := Lib.hid hb0
 have HLK : Hid (∀ W, Below w.heap.size w W → (Instr.lookup 141 (.map p) (.string g) true).run Tryz.prog W = .ok (.tuple #[.map (blk10 T g.data.toList), .bool (hasV T g.data.toList)]) W) := fun W hb => look10 (h.later hb) g (Nat.le_trans hg (by decide))
 unfold findE10
 rw [plain10_has]
 have hbn : hasV T g.data.toList = false → blk10 T g.data.toList = none := blk10_none
 have lA : A < w.heap.size := World.block_lt_of_cell? w _ hA
 have HM : Hid (∀ W, Below w.heap.size w W → Calls Tryz.prog 156 #[.slice (some ⟨A, 0, none⟩) 1 1] W (Tells5 (name5 n.data.toList) W)) := fun W hb => areNames_one A n W hn ((hb.cell (p := ⟨A, 0, none⟩) lA).trans hA)
 clear hA lA
 simp only [List.all_cons, List.all_nil, Bool.and_true]
 generalize name5 n.data.toList = d at *
 clear hb0 h
 generalize blk10 T g.data.toList = o at *
 generalize hasV T g.data.toList = b at *
 generalize name5 g.data.toList = a at *
 cases a with
 | false =>
  show Calls _ _ _ _ fun e w' => e = .returned (.tuple #[.map none, .int .i64 10]) ∧ Below w.heap.size w w'
  go_enter Tryz.func153, Tryz.ntmps153
  go_wp2_with fail
  with_reducible refine HN.out.mono ?_
  rintro e w1 ⟨rfl, hb⟩
  have HB := Lib.hid (below_next HB0.out hb)
  clear hb HN
  go_wp2
  go_ret2
  exact ⟨rfl, HB.out⟩
 | true =>
  cases d with
  | false =>
   show Calls _ _ _ _ fun e w' => e = .returned (.tuple #[.map none, .int .i64 10]) ∧ Below w.heap.size w w'
   go_enter Tryz.func153, Tryz.ntmps153
   go_wp2_with fail
   with_reducible refine HN.out.mono ?_
   rintro e w1 ⟨rfl, hb⟩
   have hb1 := below_next HB0.out hb
   have HB1 := Lib.hid hb1
   have HM1 := Lib.hid (HM.out w1 hb1)
   clear hb hb1
   go_wp2_with fail
   with_reducible refine HM1.out.mono ?_
   rintro e w2 ⟨rfl, hb⟩
   have HB2 := Lib.hid (below_next HB1.out hb)
   clear hb HM1 HM
   go_wp2
   go_ret2
   exact ⟨rfl, HB2.out⟩
  | true =>
   cases b with
   | false =>
    rw [hbn rfl]
    show Calls _ _ _ _ fun e w' => e = .returned (.tuple #[.map none, .int .i64 8]) ∧ Below w.heap.size w w'
    go_enter Tryz.func153, Tryz.ntmps153
    go_wp2_with fail
    with_reducible refine HN.out.mono ?_
    rintro e w1 ⟨rfl, hb⟩
    have hb1 := below_next HB0.out hb
    have HB1 := Lib.hid hb1
    have HM1 := Lib.hid (HM.out w1 hb1)
    clear hb hb1
    go_wp2_with fail
    with_reducible refine HM1.out.mono ?_
    rintro e w2 ⟨rfl, hb⟩
    have HB2 := Lib.hid (below_next HB1.out hb)
    clear hb HM1 HM
    have c2 := (HI.out.later HB2.out).cell
    have l2 := HLK.out _ HB2.out
    clear HN HLK HI
    go_wp2
    go_ret2
    exact ⟨rfl, HB2.out⟩
   | true =>
    show Calls _ _ _ _ fun e w' => e = .returned (.tuple #[.map o, .int .i64 0]) ∧ Below w.heap.size w w'
    go_enter Tryz.func153, Tryz.ntmps153
    go_wp2_with fail
    with_reducible refine HN.out.mono ?_
    rintro e w1 ⟨rfl, hb⟩
    have hb1 := below_next HB0.out hb
    have HB1 := Lib.hid hb1
    have HM1 := Lib.hid (HM.out w1 hb1)
    clear hb hb1
    go_wp2_with fail
    with_reducible refine HM1.out.mono ?_
    rintro e w2 ⟨rfl, hb⟩
    have HB2 := Lib.hid (below_next HB1.out hb)
    clear hb HM1 HM
    have c2 := (HI.out.later HB2.out).cell
    have l2 := HLK.out _ HB2.out
    clear HN HLK HI
    go_wp2
    go_ret2
    exact ⟨rfl, HB2.out⟩
end Go.Proofs.YtmcomnocpibiiaaGreatDoor
namespace Go.Proofs.YtmcomnocpibiiaaGreatDoor
open Go.RowKit Go.Maps Go.Sort Go.Shelf

theorem lt10 (x y : List UInt8) : ltOf Lib.compareBytes x y = bytesBefore x y := before_cmp x y
theorem swo10 : SWO (ltOf Lib.compareBytes) where
 irrefl x := by rw [lt10]; exact before_irrefl x
 trans x y z h1 h2 := by rw [lt10] at *; exact WideShapes.bytes_trans _ _ _ h1 h2
 ntrans x y z h1 h2 := by
  rw [lt10] at *
  cases h : bytesBefore x z
  ·
   rfl
  ·
   by_cases e : x = y
   ·
    subst e; rw [h] at h2; cases h2
   ·
    rcases WideAt.bytes_total x y e with h' | h'
    ·
     rw [h'] at h1; cases h1
    ·
     rw [WideShapes.bytes_trans _ _ _ h' h] at h2; cases h2
theorem tot10 (x y : List UInt8) (h1 : ltOf Lib.compareBytes x y = false) (h2 : ltOf Lib.compareBytes y x = false) : x = y := by
 rw [lt10] at *
 by_cases e : x = y
 ·
  exact e
 ·
  rcases WideAt.bytes_total x y e with h' | h'
  ·
   rw [h'] at h1; cases h1
  ·
   rw [h'] at h2; cases h2
set_option maxRecDepth 100000 in
theorem compare10_calls (a b : ByteArray) (w : World) :
  Calls Tryz.prog 151 #[.string a, .string b] w fun e w' => e = .returned (.int .i64 (Lib.compareBytes a.data.toList b.data.toList)) ∧ w' = w := by
 have HC := Lib.hid (Tryz.strings_Compare a b w)
 generalize Lib.compareBytes a.data.toList b.data.toList = r at *
 go_enter Tryz.func151, Tryz.ntmps151
 go_wp2_with fail
 with_reducible refine HC.out.mono ?_
 rintro e w1 ⟨rfl, rfl⟩
 go_wp2
 go_ret
 exact ⟨rfl, rfl⟩
theorem cmp10 (blk off size : Nat) (w : World) : CmpLays1 Tryz.prog 151 #[] encStr Lib.compareBytes blk off size w :=
 CmpReads.lays fun _ _ _ _ x y => (compare10_calls ⟨x.toArray⟩ ⟨y.toArray⟩ _).mono fun e w' ⟨he, hw⟩ => ⟨by rw [he], 0, hw⟩
theorem sort10_calls (blk cap : Nat) (ss ls : List (List UInt8)) (W : World) (hr : RiseT ls) (hp : ss.Perm ls) (hH : Holds encStr W blk 0 ss.toArray) (hb : blk < W.heap.size) (hl : ss.length < 4611686018427387904) :
  Calls Tryz.prog 197 #[.slice (some ⟨blk, 0, none⟩) ss.length cap, .func (.func 151) #[] #[]] W fun e w' => e = .returned (.tuple #[]) ∧ ∃ n os, w' = grow (putRow encStr (Sort.ahead W n) blk 0 ls.toArray) os := by
 have := Tryz.slices_SortFunc_total encStr (fun _ => rfl) Lib.compareBytes swo10 151 #[] blk 0 cap ss.toArray W (enters_of Tryz.func151 (by kernel_rfl) rfl) (cmp10 blk 0 _ W) hH hb (by simpa using hl) tot10
 rw [← sort_rise hr hp (fun x y => !(ltOf Lib.compareBytes) y x) (fun x y => by rw [lt10])]
 simpa [sortWorld] using this
theorem sort10_none (cap : Nat) (W : World) : Calls Tryz.prog 197 #[.slice none 0 cap, .func (.func 151) #[] #[]] W fun e w' => e = .returned (.tuple #[]) ∧ w' = W :=
 Tryz.slices_SortFunc_none (α := List UInt8) none cap _ W

end Go.Proofs.YtmcomnocpibiiaaGreatDoor
namespace Go.Proofs.YtmcomnocpibiiaaGreatDoor
open Go.RowKit Go.Maps Go.Sort Go.Shelf

def Coll10 {V : Type} (T : RowV V) (q : List UInt8 × V → Bool) (left : Lit → Bool) (ss : List (List UInt8)) : Prop := ss.Nodup ∧ ∀ x, x ∈ ss ↔ ∃ p ∈ T, p.1 = x ∧ q p = true ∧ left (.string x) = false
section
variable {V : Type} {T : RowV V} {q : List UInt8 × V → Bool} {left : Lit → Bool} {ss : List (List UInt8)}
theorem Coll10.start (e : V → DataW Unit) : Coll10 T q (Maps.has (datV e T)) [] := ⟨List.nodup_nil, fun x => by
 constructor
 ·
  intro h; cases h
 ·
  rintro ⟨p, hp, rfl, _, h⟩
  rw [datV_has, hasV_iff.2 ⟨p, hp, rfl⟩] at h
  cases h⟩
theorem coll10_at {e : V → DataW Unit} (hr : RiseV T) {x : List UInt8} {y : DataW Unit} (hat : ∀ zd, (datV e T).atKey (.string x) zd = y) : ∃ p ∈ T, p.1 = x ∧ e p.2 = y := by
 have h1 : Maps.has (datV e T) (.string x) = true := has_true_of_atKey hat
 rw [datV_has] at h1
 obtain ⟨v, hv⟩ := getV_has h1
 have h2 := hat .nil
 rw [atV_some _ hv] at h2
 exact ⟨(x, v), (getV_some hr).1 hv, rfl, h2⟩
theorem Coll10.hit (h : Coll10 T q left ss) {p : List UInt8 × V} (hp : p ∈ T) (hq : q p = true) (hlk : left (.string p.1) = true) : Coll10 T q (fun z => left z && !z.sameKey (.string p.1)) (ss ++ [p.1]) := by
 have hnew : p.1 ∉ ss := fun hx => by obtain ⟨_, _, _, _, h'⟩ := (h.2 _).1 hx; rw [hlk] at h'; cases h'
 refine ⟨List.nodup_append.2 ⟨h.1, by simp, fun a ha b hb => by simp at hb; subst hb; exact fun e => hnew (e ▸ ha)⟩, fun y => ?_⟩
 by_cases hy : y = p.1
 ·
  subst hy
  constructor
  ·
   intro _; exact ⟨p, hp, rfl, hq, by simp [Lit.sameKey]⟩
  ·
   intro _; simp
 ·
  simp [h.2 y, hy, Lit.sameKey]
theorem Coll10.miss (hr : RiseV T) (h : Coll10 T q left ss) {p : List UInt8 × V} (hp : p ∈ T) (hq : q p = false) : Coll10 T q (fun z => left z && !z.sameKey (.string p.1)) ss := by
 refine ⟨h.1, fun y => ?_⟩
 rw [h.2 y]
 refine exists_congr fun p' => and_congr_right fun hp' => and_congr_right fun e => and_congr_right fun hq' => ?_
 have : y ≠ p.1 := fun ey => by
  have := riseV_one hr hp' hp (e.trans ey)
  rw [this, hq] at hq'
  cases hq'
 simp [Lit.sameKey, this]
theorem Coll10.perm (hr : RiseV T) (h : Coll10 T q left ss) (hl : ∀ kl, left kl = false) : ss.Perm (names10 (T.filter q)) := by
 refine (List.perm_ext_iff_of_nodup h.1 ?_).2 fun x => ?_
 ·
  have h1 : RiseT (names10 (T.filter q)) := RiseV.names (hr.filter _)
  exact h1.imp fun {a b} hab e => by subst e; rw [before_irrefl] at hab; cases hab
 ·
  rw [h.2 x]
  unfold names10
  simp only [List.mem_map, List.mem_filter, hl]
  constructor
  ·
   rintro ⟨p, hp, rfl, hq, _⟩; exact ⟨p, ⟨hp, hq⟩, rfl⟩
  ·
   rintro ⟨p, ⟨hp, hq⟩, rfl⟩; exact ⟨p, hp, rfl, hq, trivial⟩
end
theorem ranges_below10 {w w' : World} {P : Program} {k : TypeId} {R : Value → Option (DataW Unit × List MemPlace)} {b r n : Nat} {D : DataW Unit} {left : Lit → Bool} {cnt : Nat} (h : w.ranges P k R b r n D left cnt) (hb : Below w.heap.size w w') : w'.ranges P k R b r n D left cnt := by
 have h1 := h.owns.lt
 have h2 := h.lt
 obtain ⟨es, clock, since, seen, c0, hb', F, hs, hD, hr, rest⟩ := h
 exact ⟨es, clock, since, seen, c0, (hb.block b h1).trans hb', F, hs, hD, (hb.block r h2).trans hr, rest⟩
theorem infoStr10 : (Tryz.prog.info? 9).map (fun i => (i.zero, i.size, i.bytes)) = some (some (.string ⟨#[]⟩), 1, 16) := by kernel_rfl


def Names10 (ls : List (List UInt8)) (w : World) (e : Ending) (w' : World) : Prop :=
 ∃ v, e = .returned v ∧ w'.ownsRow w.heap.size 9 1 v ls.length (ls.map encStr) ∧ Below w.heap.size w w'
theorem ownsRow_low10 {w : World} {a b : Nat} {e size n : Nat} {v : Value} {xs : List Value} (h : w.ownsRow b e size v n xs) (hab : a ≤ b) : w.ownsRow a e size v n xs := by
 refine ⟨h.1, ?_⟩
 rcases h.2 with hn | ⟨g, cap, cur, e1, h0, hg, hr⟩
 ·
  exact .inl hn
 ·
  exact .inr ⟨g, cap, cur, e1, Nat.le_trans hab h0, hg, hr⟩
theorem ownsRow_below10 {w w' : World} {b : Nat} {e size n : Nat} {v : Value} {xs : List Value} (h : w.ownsRow b e size v n xs) (hb : Below w.heap.size w w') : w'.ownsRow b e size v n xs := by
 refine ⟨h.1, ?_⟩
 rcases h.2 with hn | ⟨g, cap, cur, e1, h0, hg, hr⟩
 ·
  exact .inl hn
 ·
  exact .inr ⟨g, cap, cur, e1, h0, (hb.block g (Array.getElem?_eq_some_iff.1 hg).1).trans hg, hr⟩

set_option maxRecDepth 100000 in
set_option maxHeartbeats 2000000 in
theorem rises10_calls (b : Nat) (T : RowV (Nat × Set10)) (q : List UInt8 × (Nat × Set10) → Bool) (av : Value) (w : World) (hr : RiseV T) (hf : T.length ≤ 1000) (hown : w.ownsMap Tryz.prog 9 (R10) b T.length (datV eb10 T))
  (hev : ∀ W, Below w.heap.size w W → ∀ x ∈ T, Calls Tryz.prog 217 #[.map (some x.2.1), av] W (Tells5 (q x) W)) :
  Calls Tryz.prog 187 #[.map (some b), av] w (Names10 (names10 (T.filter q)) w) := by
 obtain ⟨i0, hi, hz0, hz1, hz2⟩ := info_parts infoStr10
 have hbl := hown.lt
 have HEV := Lib.hid hev
 have HR := Lib.hid hr
 clear hev hr
 have hsz : Maps.size (datV eb10 T) = T.length := datV_size eb10 T
 have HSRT : Hid (∀ blk cap (ss ls : List (List UInt8)) (W : World), RiseT ls → ss.Perm ls → Holds encStr W blk 0 ss.toArray → blk < W.heap.size → ss.length < 4611686018427387904 → Calls Tryz.prog 197 #[.slice (some ⟨blk, 0, none⟩) ss.length cap, .func (.func 151) #[] #[]] W fun e w' => e = .returned (.tuple #[]) ∧ ∃ n os, w' = grow (putRow encStr (Sort.ahead W n) blk 0 ls.toArray) os) := sort10_calls
 have HSRT0 : Hid (∀ cap W, Calls Tryz.prog 197 #[.slice none 0 cap, .func (.func 151) #[] #[]] W fun e w' => e = .returned (.tuple #[]) ∧ w' = W) := sort10_none
 go_enter Tryz.func187, Tryz.ntmps187
 go_wp2_with (first
  | (at_range; refine wpList_range_own _ rfl _ 141 rfl 9 171 keyed10 Tryz.underlying141 _ b _ _ rfl hown ?_; intro w0 hrg0 hg0 hs0)
  | go_in)
 go_frame
 rw [hsz] at hrg0
 have hs1 : w0.heap.size = w.heap.size + 1 := hs0
 obtain ⟨len, hlen⟩ : ∃ len, len = T.length := ⟨_, rfl⟩
 rw [← hlen] at hrg0 hf
 have HLN := Lib.hid hlen
 clear hs0 hown hlen hsz
 go_loopw [5] (fun v wr => ∃ (left : Lit → Bool) (cnt : Nat) (ss : List (List UInt8)), Hid (wr.ranges Tryz.prog 9 (R10) b w.heap.size len (datV eb10 T) left cnt) ∧ ss.length + cnt ≤ len ∧
   Hid (wr.ownsRow w.heap.size 9 1 v ss.length (ss.map encStr)) ∧ Hid (Coll10 T q left ss) ∧ Hid (Below w.heap.size w wr))
  (fun _ wr => wr.rangeLeft b w.heap.size)
 case atStart =>
  exact ⟨_, _, [], hrg0, by simp, World.ownsRow_nil _ _ _ _, Coll10.start eb10, (Below.refl _ _).grown hg0 (Nat.le_refl _) (fun j hj => by cases hj)⟩
 case round =>
  obtain ⟨left, cnt, ss, HRG, hcs, HROW, HC, HNX⟩ := hrel
  have hrg := HRG.out
  go_wp2_with (first
   | (at_next; refine wpList_next_ranges _ rfl _ rfl 9 keyed10 (R10) encStr Value.map (fun key kl hk => by obtain ⟨x, hx, _⟩ := Maps.keyOf_str Tryz.underlying9 hk; exact ⟨x, hx⟩) (fun v y hv => by obtain ⟨c, rfl, _⟩ := r10_inv hv; exact ⟨c, rfl⟩) b w.heap.size len _ _ _ rfl hrg ?_ ?_)
   | go_in)
  ·
   intro hc0 hl0
   have hp := HC.out.perm HR.out hl0
   have hrt : RiseT (names10 (T.filter q)) := RiseV.names (HR.out.filter _)
   have hpl := hp.length_eq
   have hrow := HROW.out
   rcases hrow.2 with ⟨hnil, hz⟩ | ⟨g, cap, cur, rfl, hbase, hgb, r1, r2, r3, r4⟩
   ·
    subst hnil
    have hss : ss = [] := List.eq_nil_of_length_eq_zero hz
    subst hss
    have hne : names10 (T.filter q) = [] := List.eq_nil_of_length_eq_zero hpl.symm
    have HF : Hid (Names10 (names10 (T.filter q)) w (.returned (.slice none 0 0)) wr) := by
     rw [hne]
     exact ⟨_, rfl, World.ownsRow_nil _ _ _ _, HNX.out⟩
    clear hrow hz hne hpl hrt hp hrg hl0
    go_wp2_with (go_at_call 197; (with_reducible refine (HSRT0.out _ _).mono ?_); rintro e w' ⟨rfl, rfl⟩)
    go_ret
    exact HF.out
   ·
    have hH : Holds encStr wr g 0 ss.toArray := holds_of_block hgb (by simpa using r4)
    have hgl : g < wr.heap.size := (Array.getElem?_eq_some_iff.1 hgb).1
    have cS := Lib.hid (HSRT.out g cap ss _ wr hrt hp hH hgl (by omega))
    have HF : Hid (∀ n os, Names10 (names10 (T.filter q)) w (.returned (.slice (some ⟨g, 0, none⟩) ss.length cap)) (grow (putRow encStr (Sort.ahead wr n) g 0 (names10 (T.filter q)).toArray) os)) := fun n os => by
     refine ⟨_, rfl, ?_, HNX.out.grown (grownBy_sorted _) HNX.out.size (fun j hj => by cases hj; exact hbase)⟩
     have := ownsRow_sorted (ts := names10 (T.filter q)) (n := n) (os := os) hpl.symm hbase hgb r1 r2 r3
     rw [← hpl]; exact this
    clear hrow hbase hgb r1 r2 r3 r4 hH hgl hpl hp hrt hrg hl0
    generalize ss.length = n at *
    go_wp2_with (go_at_call 197; (with_reducible refine cS.out.mono ?_); rintro e w' ⟨rfl, nn, os, rfl⟩)
    go_ret
    exact HF.out nn os
  ·
   intro x c kl yd yp w2 cnt2 hkey hlk hv hat hrg2 hlt hg2 hs2 hen
   obtain ⟨x', ex, rfl, _⟩ := Maps.keyOf_str Tryz.underlying9 hkey
   obtain rfl : x = x' := encStr_inj ex
   obtain ⟨p, hpT, rfl, hpe⟩ := coll10_at HR.out hat
   obtain rfl : (some p.2.1) = c := by
    obtain ⟨o, ho, hz⟩ := r10_inv hv
    have e1 : c = o := by injection ho
    have e2 : ob10 (some p.2.1) = ob10 o := hpe.trans hz
    rw [e1]; exact ob10_inj e2
   have hnx2 : Below w.heap.size w w2 := HNX.out.grown hg2 HNX.out.size (fun j hj => by cases hj; exact Nat.le_refl _)
   have hrow2 := HROW.out.kept hg2 (Or.inr (row_ne_iter HROW.out hrg).symm)
   have HEV2 := Lib.hid (HEV.out w2 hnx2 p hpT)
   have HNX2 := Lib.hid hnx2
   have HROW2 := Lib.hid hrow2
   have HRG2 := Lib.hid hrg2
   have hkz : (fun l : List UInt8 => (Value.string ⟨l.toArray⟩)) p.1 = encStr p.1 := rfl
   have HLT : Hid (cnt2 < wr.rangeLeft b w.heap.size) := by rw [show wr.rangeLeft b w.heap.size = cnt from hrg.left_eq]; exact hlt
   have HPT := Lib.hid hpT
   have HLK := Lib.hid hlk
   clear hs2 hnx2 hrow2 hrg2 hkz hpT hat hv hpe hkey hg2 HROW HRG hrg HNX HEV hlk
   have hlt2 : ss.length + cnt2 + 1 ≤ len := by omega
   have hkv : encStr p.1 = .string (tx10 p.1) := rfl
   have HKV := Lib.hid hkv
   rw [hkv] at hen ⊢
   clear hkv
   cases hq : q p with
   | true =>
    rw [hq] at HEV2
    have HC2 := Lib.hid (HC.out.hit HPT.out hq HLK.out)
    clear HC hq HLK
    generalize tx10 p.1 = kv at *
    go_wp2_with (first
     | (go_at_call 217; (with_reducible refine HEV2.out.mono ?_); rintro e w3 ⟨rfl, hb3⟩; have HROW3 := Lib.hid (ownsRow_below10 HROW2.out hb3); have HRG3 := Lib.hid (ranges_below10 HRG2.out hb3); have HNX3 := Lib.hid (below_next HNX2.out hb3); clear hb3)
     | (at_builtin; refine wpList_append_own _ rfl _ _ 28 rfl w.heap.size 9 i0 (.string ⟨#[]⟩) 1 16 Tryz.underlying28 hi hz0 hz1 hz2 rfl (by decide) _ _ _ rfl (HROW3.out.alloc _) ⟨w3.heap.size, 0, none⟩ 1 1 [.string kv] rfl rfl (cell_one_new _ _ _) (by simp [Value.oneCell']) (by unfold maxLen at *; omega) (by omega) (by have := HNX3.out.size; simp; omega) ?_; intro v' w4 hown' hg4 hnil4; have HOW := Lib.hid hown'; have HG4 := Lib.hid hg4; clear hown' hg4 hnil4; go_frame)
     | go_in)
    have HRG4 := Lib.hid ((HRG3.out.alloc _).kept HG4.out (row_ne_low HROW3.out hbl) (row_ne_iter HROW3.out HRG3.out))
    have ho := HOW.out
    rw [← HKV.out] at ho
    have HB4 := Lib.hid ((below_next HNX3.out (below_alloc (Below.refl _ _) _)).grown HG4.out (by have := HNX3.out.size; simp; omega) (fun j hj => (HROW3.out.lt j hj).1))
    have HO4 : Hid (w4.ownsRow w.heap.size 9 1 v' (ss ++ [p.1]).length ((ss ++ [p.1]).map encStr)) := by
     show w4.ownsRow _ _ _ _ _ _
     simpa using ho
    clear ho
    go_roundw
    case rel => exact ⟨_, cnt2, ss ++ [p.1], HRG4, by simp; omega, HO4, HC2, HB4⟩
    case measure => rw [HRG4.out.left_eq]; exact HLT.out
   | false =>
    rw [hq] at HEV2
    have HC2 := Lib.hid (HC.out.miss HR.out HPT.out hq)
    clear HC hq HLK
    generalize tx10 p.1 = kv at *
    go_wp2_with (first
     | (go_at_call 217; (with_reducible refine HEV2.out.mono ?_); rintro e w3 ⟨rfl, hb3⟩; have HROW3 := Lib.hid (ownsRow_below10 HROW2.out hb3); have HRG3 := Lib.hid (ranges_below10 HRG2.out hb3); have HNX3 := Lib.hid (below_next HNX2.out hb3); clear hb3)
     | go_in)
    go_roundw
    case rel => exact ⟨_, cnt2, ss, HRG3, by omega, HROW3, HC2, HNX3⟩
    case measure => rw [HRG3.out.left_eq]; exact HLT.out

set_option maxRecDepth 100000 in
theorem rises10_nil (av : Value) (w : World) : Calls Tryz.prog 187 #[.map none, av] w (Names10 [] w) := by
 have hrg := run_range_nilMap (P := Tryz.prog) w 141 9 171 Tryz.underlying141
 have hnx : ∀ ty, (Instr.next (.pointer (some ⟨w.heap.size, 0, none⟩)) false ty).run Tryz.prog (w.alloc (.mapIter none 0 #[] 0)) = _ := fun ty => run_next_nilMap _ ty 0 0 #[]
 have HSRT0 : Hid (∀ cap W, Calls Tryz.prog 197 #[.slice none 0 cap, .func (.func 151) #[] #[]] W fun e w' => e = .returned (.tuple #[]) ∧ w' = W) := sort10_none
 have HB := Lib.hid (below_alloc (Below.refl w.heap.size w) (.mapIter none 0 #[] 0))
 go_enter Tryz.func187, Tryz.ntmps187
 go_wp2
 refine wp_loop_rounds 1 ?_
 rw [rounds_succ]
 go_wp2_with (go_at_call 197; (with_reducible refine (HSRT0.out _ _).mono ?_); rintro e w' ⟨rfl, rfl⟩)
 go_ret
 exact ⟨_, rfl, World.ownsRow_nil _ _ _ _, HB.out⟩


end Go.Proofs.YtmcomnocpibiiaaGreatDoor
namespace Go.Proofs.YtmcomnocpibiiaaGreatDoor
open Go.RowKit Go.Maps

theorem name10_len {n : List UInt8} (h : name5 n = true) : n.length ≤ 12 := by
 unfold name5 pref5 at h
 simp only [Bool.and_eq_true, decide_eq_true_eq] at h
 exact h.1.1.2.1
theorem name10_size {s : ByteArray} (h : name5 s.data.toList = true) : s.size ≤ 1000 := by
 have := name10_len h
 rw [size_list] at this
 omega

theorem PutTo10.goes {w w2 w' : World} {B b : Nat} {p : Option Nat} {T : Rows10} {k : List UInt8} {l : Set10} (h : PutTo10 w2 B p (putV T k (b, l)) w') (hb : Below w.heap.size w w2) (hbn : w.heap.size ≤ b) : Goes10 w B p T (putV (plain10 T) k l) w' := by
 obtain ⟨p', hd, hp, ht⟩ := h
 refine ⟨p', _, hd, plain10_put T k (b, l), fun c e => (hp c e).imp id (fun h => Nat.le_trans hb.size h), fun x hx => ?_, (Turns.of_below hb _).next ht (fun i _ h => h.elim .inl (fun h => .inr (.inl h)))⟩
 rcases mem_putV.1 hx with rfl | ⟨hx, _⟩
 ·
  exact .inr hbn
 ·
  exact .inl ⟨x, hx, rfl⟩
theorem Goes10.set {w w1 w' : World} {B : Nat} {p : Option Nat} {T : Rows10} (h : Grp10 w B p T) (hb : Below w.heap.size w w1) {x : List UInt8 × (Nat × Set10)} (hx : x ∈ T) (f : Set10 → Set10) (hs : Set10At w' x.2.1 (f x.2.2)) (ht : Turns (fun i => i = x.2.1) w1 w') : Goes10 w B p T (updV f (plain10 T) x.1) w' := by
 refine ⟨p, _, (h.later hb).turned hx f hs ht, plain10_upd f T x.1, (fun _ e => .inl e), fun y hy => .inl ?_, (Turns.of_below hb _).next ht (fun i _ e => .inr (.inr ⟨x, hx, e.symm⟩))⟩
 obtain ⟨q, hq, rfl⟩ := updV_mem hy
 refine ⟨q, hq, ?_⟩
 show q.2.1 = (if q.1 = x.1 then (q.2.1, f q.2.2) else q.2).1
 split <;> rfl
theorem at10 {T : Rows10} {k : List UInt8} (h : hasV T k = true) : ∃ x ∈ T, x.1 = k := hasV_iff.1 h

set_option maxRecDepth 100000 in
set_option maxHeartbeats 1000000 in
theorem make10_calls (B : Nat) (p : Option Nat) (T : Rows10) (g : ByteArray) (w : World) (h : Grp10 w B p T) (hf : T.length ≤ 6) (hg : g.size ≤ 9223372036854775807) :
  Calls Tryz.prog 87 #[.pointer (some ⟨B, 0, none⟩), .string g] w fun e w' => e = .returned (.int .i64 (maE10 (plain10 T) g.data.toList)) ∧ Goes10 w B p T (maS10 (plain10 T) g.data.toList) w' := by
 have HI := Lib.hid h
 have HB0 : Hid (Below w.heap.size w (w.alloc (.cells #[.string g] 9))) := below_alloc (Below.refl _ _) _
 have HN := Lib.hid (areNames_one w.heap.size g _ hg (show (w.alloc (.cells #[.string g] 9)).cell? ⟨w.heap.size, 0, none⟩ = some (.string g) by rw [World.cell?_alloc_at _ _ _ _ rfl]; rfl))
 have HLK : Hid (∀ W, Below w.heap.size w W → (Instr.lookup 141 (.map p) (.string g) true).run Tryz.prog W = .ok (.tuple #[.map (blk10 T g.data.toList), .bool (hasV T g.data.toList)]) W) := fun W hb => look10 (h.later hb) g (Nat.le_trans hg (by decide))
 have HLE : Hid (∀ W ty, Below w.heap.size w W → (Builtin.len_ #[141] ty #[.map p]).run Tryz.prog W = .ok (.int .i64 T.length) W) := fun W ty hb => len10 (h.later hb) ty
 have hmm := @run_makeMap Tryz.prog
 unfold maS10 maE10
 rw [plain10_has, plain10_len]
 have HPT : Hid (name5 g.data.toList = true → ∀ W, Below w.heap.size w W → Calls Tryz.prog 157 #[.pointer (some ⟨B, 0, none⟩), .string g, .map (some W.heap.size)] (W.alloc (.map #[] 0)) fun e w' => e = .returned (.tuple #[]) ∧ Goes10 w B p T (putV (plain10 T) g.data.toList []) w') := fun hn W hb => by
  have hb2 : Below w.heap.size w (W.alloc (.map #[] 0)) := below_next hb (below_alloc (Below.refl _ _) _)
  refine (put10_calls B W.heap.size p T [] g _ (h.later hb2) (set10_made W) (fun x hx e => ?_) (fun e => ?_) (by omega) (name10_size hn)).mono fun e w' ⟨he, hp⟩ => ⟨he, hp.goes hb2 hb.size⟩
  ·
   have := h.slt x hx; have := hb.size; omega
  ·
   have := h.mlt _ e; have := hb.size; omega
 clear h
 generalize blk10 T g.data.toList = o at *
 generalize hasV T g.data.toList = b at *
 generalize name5 g.data.toList = a at *
 generalize putV (plain10 T) g.data.toList [] = S2 at *
 cases a with
 | false =>
  show Calls _ _ _ _ fun e w' => e = .returned (.int .i64 10) ∧ Goes10 w B p T (plain10 T) w'
  go_enter Tryz.func87, Tryz.ntmps87
  go_wp2_with fail
  with_reducible refine HN.out.mono ?_
  rintro e w1 ⟨rfl, hb⟩
  have HB := Lib.hid (below_next HB0.out hb)
  clear hb HN
  go_wp2
  go_ret
  exact ⟨rfl, Goes10.still HI.out HB.out⟩
 | true =>
  cases b with
  | true =>
   show Calls _ _ _ _ fun e w' => e = .returned (.int .i64 9) ∧ Goes10 w B p T (plain10 T) w'
   go_enter Tryz.func87, Tryz.ntmps87
   go_wp2_with fail
   with_reducible refine HN.out.mono ?_
   rintro e w1 ⟨rfl, hb⟩
   have hb1 := below_next HB0.out hb
   have HB := Lib.hid hb1
   have c1 := (HI.out.later hb1).cell
   have l1 := HLK.out _ hb1
   clear hb HN HLK hb1
   go_wp2
   go_ret
   exact ⟨rfl, Goes10.still HI.out HB.out⟩
  | false =>
   by_cases h6 : 6 ≤ T.length
   ·
    have e7 : (if true = true then if false = true then (9 : Int) else if 6 ≤ T.length then 7 else 0 else 10) = 7 := by simp [h6]
    rw [e7, if_neg (by decide)]
    have z6 : (T.length : Int) ≥ 6 := by omega
    have x6 : decide ((T.length : Int) ≥ 6) = true := decide_eq_true z6
    clear e7
    generalize hTL : T.length = tl at *
    have HTL := Lib.hid hTL
    clear hTL
    go_enter Tryz.func87, Tryz.ntmps87
    go_wp2_with fail
    with_reducible refine HN.out.mono ?_
    rintro e w1 ⟨rfl, hb⟩
    have hb1 := below_next HB0.out hb
    have HB := Lib.hid hb1
    have c1 := (HI.out.later hb1).cell
    have l1 := HLK.out _ hb1
    have l2 := fun ty => HLE.out _ ty hb1
    clear hb HN HLK hb1 HLE
    go_wp2
    go_ret
    exact ⟨rfl, Goes10.still HI.out HB.out⟩
   ·
    have e0 : (if true = true then if false = true then (9 : Int) else if 6 ≤ T.length then 7 else 0 else 10) = 0 := by simp [h6]
    rw [e0, if_pos rfl]
    have z6 : ¬ (T.length : Int) ≥ 6 := by omega
    have x6 : decide ((T.length : Int) ≥ 6) = false := decide_eq_false z6
    have HP2 := Lib.hid (HPT.out rfl)
    clear e0 HPT
    generalize hTL : T.length = tl at *
    have HTL := Lib.hid hTL
    clear hTL
    go_enter Tryz.func87, Tryz.ntmps87
    go_wp2_with fail
    with_reducible refine HN.out.mono ?_
    rintro e w1 ⟨rfl, hb⟩
    have hb1 := below_next HB0.out hb
    have c1 := (HI.out.later hb1).cell
    have l1 := HLK.out _ hb1
    have l2 := fun ty => HLE.out _ ty hb1
    have HP3 := Lib.hid (HP2.out _ hb1)
    clear hb HN HLK hb1 HLE HP2
    go_wp2_with fail
    with_reducible refine HP3.out.mono ?_
    rintro e w2 ⟨rfl, hg⟩
    have HG := Lib.hid hg
    clear hg HP3 c1 l1 l2
    go_wp2
    go_ret
    exact ⟨rfl, HG.out⟩


set_option maxRecDepth 100000 in
set_option maxHeartbeats 1000000 in
theorem join10_calls (B : Nat) (p : Option Nat) (T : Rows10) (g n : ByteArray) (w : World) (h : Grp10 w B p T) (hl : ∀ x ∈ T, x.2.2.length ≤ 1000) (hg : g.size ≤ 9223372036854775807) (hn : n.size ≤ 9223372036854775807) :
  Calls Tryz.prog 131 #[.pointer (some ⟨B, 0, none⟩), .string g, .string n] w fun e w' => e = .returned (.int .i64 (joE10 (plain10 T) g.data.toList n.data.toList)) ∧ Goes10 w B p T (joS10 (plain10 T) g.data.toList n.data.toList) w' := by
 have HI := Lib.hid h
 have hb0 : Below w.heap.size w (w.alloc (.cells #[.string n] 9)) := below_alloc (Below.refl _ _) _
 have HFN := Lib.hid (find10_one B p T g w.heap.size n _ (h.later hb0) hg hn (show (w.alloc (.cells #[.string n] 9)).cell? ⟨w.heap.size, 0, none⟩ = some (.string n) by rw [World.cell?_alloc_at _ _ _ _ rfl]; rfl))
 have HB0 := Lib.hid hb0
 unfold joS10 joE10
 clear hb0
 by_cases hE : findE10 (plain10 T) g.data.toList [n.data.toList] = 0
 ·
  obtain ⟨z1, z2, z3⟩ := findE10_zero hE
  rw [plain10_has] at z3
  obtain ⟨x, hx, hxg⟩ := at10 z3
  have hsz : n.size ≤ 1000 := name10_size (by simpa using z2)
  have hin : in10 (plain10 T) g.data.toList n.data.toList = hasV x.2.2 n.data.toList := by
   unfold in10
   rw [← hxg, plain10_mem h.rise hx]
  have hblk : blk10 T g.data.toList = some x.2.1 := by rw [← hxg]; exact blk10_some h.rise hx
  rw [hE, hblk] at HFN
  rw [if_pos rfl] at HFN
  rw [hE, if_pos rfl, hin]
  have HLK : Hid (∀ W, Below w.heap.size w W → (Instr.lookup 171 (.map (some x.2.1)) (.string n) false).run Tryz.prog W = .ok (.bool (hasV x.2.2 n.data.toList)) W) := fun W hb => has10 ((h.sets x hx).kept (hb.block _ (h.slt x hx))) n (Nat.le_trans hn (by decide))
  have HDO : Hid (∀ W, Below w.heap.size w W → Calls Tryz.prog 182 #[.map (some x.2.1), .string n] W fun e w' => e = .returned (.tuple #[]) ∧ Goes10 w B p T (updV (fun l => putV l n.data.toList ()) (plain10 T) x.1) w') := fun W hb =>
   (setadd10_calls x.2.1 x.2.2 n W ((h.sets x hx).kept (hb.block _ (h.slt x hx))) (hl x hx) hsz).mono fun e w' ⟨he, h2, h3⟩ => ⟨he, Goes10.set h hb hx (fun l => putV l n.data.toList ()) h2 h3⟩
  clear h hE z1 z2 z3 hin hblk hsz hl
  rw [hxg] at HDO
  clear hx hxg
  generalize updV (fun l => putV l n.data.toList ()) (plain10 T) g.data.toList = S2 at *
  generalize hasV x.2.2 n.data.toList = r at *
  generalize x.2.1 = b at *
  cases r with
  | true =>
   show Calls _ _ _ _ fun e w' => e = .returned (.int .i64 9) ∧ Goes10 w B p T (plain10 T) w'
   go_enter Tryz.func131, Tryz.ntmps131
   go_wp2_with fail
   with_reducible refine HFN.out.mono ?_
   rintro e w1 ⟨rfl, hb⟩
   have hb1 := below_next HB0.out hb
   have HB := Lib.hid hb1
   have l1 := HLK.out _ hb1
   clear hb hb1 HFN HLK HDO
   go_wp2
   go_ret
   exact ⟨rfl, Goes10.still HI.out HB.out⟩
  | false =>
   show Calls _ _ _ _ fun e w' => e = .returned (.int .i64 0) ∧ Goes10 w B p T S2 w'
   go_enter Tryz.func131, Tryz.ntmps131
   go_wp2_with fail
   with_reducible refine HFN.out.mono ?_
   rintro e w1 ⟨rfl, hb⟩
   have hb1 := below_next HB0.out hb
   have l1 := HLK.out _ hb1
   have HD1 := Lib.hid (HDO.out _ hb1)
   clear hb hb1 HFN HLK HDO
   go_wp2_with fail
   with_reducible refine HD1.out.mono ?_
   rintro e w2 ⟨rfl, hg⟩
   have HG := Lib.hid hg
   clear hg HD1 l1
   go_wp2
   go_ret
   exact ⟨rfl, HG.out⟩
 ·
  rw [if_neg hE, if_neg hE]
  rw [if_neg hE] at HFN
  clear h
  generalize findE10 (plain10 T) g.data.toList [n.data.toList] = r at *
  go_enter Tryz.func131, Tryz.ntmps131
  go_wp2_with fail
  with_reducible refine HFN.out.mono ?_
  rintro e w1 ⟨rfl, hb⟩
  have HB := Lib.hid (below_next HB0.out hb)
  clear hb HFN
  go_wp2
  go_ret
  exact ⟨rfl, Goes10.still HI.out HB.out⟩



set_option maxRecDepth 100000 in
set_option maxHeartbeats 1000000 in
theorem all10_calls (B : Nat) (p : Option Nat) (T : Rows10) (w : World) (h : Grp10 w B p T) (hf : T.length ≤ 1000) :
  Calls Tryz.prog 136 #[.pointer (some ⟨B, 0, none⟩)] w (Names10 (names10 (plain10 T)) w) := by
 have HRS : Hid (Calls Tryz.prog 187 #[.map p, .slice none 0 0] w (Names10 (names10 (plain10 T)) w)) := by
  rw [plain10_names]
  cases p with
  | none =>
   have := h.nil rfl
   subst this
   exact rises10_nil _ w
  | some m =>
   have := rises10_calls m T (fun _ => true) (.slice none 0 0) w h.rise hf (h.map m rfl) (fun W' _ y _ => everys_none _ W')
   rwa [List.filter_eq_self.2 (fun _ _ => rfl)] at this
 have hc := h.cell
 clear h
 generalize names10 (plain10 T) = ls at *
 go_enter Tryz.func136, Tryz.ntmps136
 go_wp2_with fail
 with_reducible refine HRS.out.mono ?_
 rintro e w2 ⟨v, rfl, hr, hb⟩
 have HN : Hid (Names10 ls w (.returned v) w2) := ⟨v, rfl, hr, hb⟩
 obtain ⟨A, c, rfl⟩ : ∃ A c, v = .slice A ls.length c := by
  rcases hr.2 with ⟨rfl, hz⟩ | ⟨g, cap, cur, rfl, _⟩
  ·
   exact ⟨none, 0, by rw [hz]⟩
  ·
   exact ⟨_, cap, rfl⟩
 clear hr hb HRS hc
 generalize hn : ls.length = n at *
 clear hn
 go_wp2
 go_ret
 exact HN.out

theorem of10_rows (T : Rows10) (n : List UInt8) : names10 (T.filter fun x => hasV x.2.2 n) = of10 (plain10 T) n := by
 unfold of10 ofs10 plain10 names10
 rw [List.filter_map, List.map_map]
 rfl
def YOf10 (B : Nat) (p : Option Nat) (n : ByteArray) (ls : List (List UInt8)) (w : World) : Nat → Value → World → Prop
 | 3, v, _ => v = .map p
 | 4, v, _ => v = .string n
 | 5, v, W => ∃ C, v = .func (.func 218) #[] #[.pointer (some ⟨C, 0, none⟩)] ∧ W.cell? ⟨C, 0, none⟩ = some (.string n)
 | 6, v, W => ∃ A C, v = .slice (some ⟨A, 0, none⟩) 1 1 ∧ W.cell? ⟨A, 0, none⟩ = some (.func (.func 218) #[] #[.pointer (some ⟨C, 0, none⟩)]) ∧ W.cell? ⟨C, 0, none⟩ = some (.string n)
 | 7, v, W => Names10 ls w (.returned v) W
 | 8, v, W => Names10 ls w (.returned v) W
 | _, v, _ => v = .pointer (some ⟨B, 0, none⟩)
theorem Names10.later {ls : List (List UInt8)} {w W W' : World} {e : Ending} (h : Names10 ls w e W) (hb : Below W.heap.size W W') : Names10 ls w e W' := by
 obtain ⟨v, he, hr, hbw⟩ := h
 exact ⟨v, he, ownsRow_below10 hr hb, below_next hbw hb⟩
theorem YOf10_keep {B : Nat} {p : Option Nat} {n : ByteArray} {ls : List (List UInt8)} {w W W' : World} (hb : Below W.heap.size W W') (j : Nat) (u : Value) (h : YOf10 B p n ls w j u W) : YOf10 B p n ls w j u W' := by
 have key : ∀ (C : Nat) (v : Value), W.cell? ⟨C, 0, none⟩ = some v → W'.cell? ⟨C, 0, none⟩ = some v := fun C v hC => (hb.cell (p := ⟨C, 0, none⟩) (World.block_lt_of_cell? W _ hC)).trans hC
 match j, h with
 | 0, h => exact h
 | 1, h => exact h
 | 2, h => exact h
 | 3, h => exact h
 | 4, h => exact h
 | 5, h => obtain ⟨C, e, hC⟩ := h; exact ⟨C, e, key C _ hC⟩
 | 6, h => obtain ⟨A, C, e, hA, hC⟩ := h; exact ⟨A, C, e, key A _ hA, key C _ hC⟩
 | 7, h => exact Names10.later h hb
 | 8, h => exact Names10.later h hb
 | _ + 9, h => exact h

set_option maxRecDepth 100000 in
set_option maxHeartbeats 1000000 in
theorem of10_calls (B : Nat) (p : Option Nat) (T : Rows10) (n : ByteArray) (w : World) (h : Grp10 w B p T) (hf : T.length ≤ 1000) (hn : n.size ≤ 9223372036854775807) :
  Calls Tryz.prog 141 #[.pointer (some ⟨B, 0, none⟩), .string n] w (Names10 (of10 (plain10 T) n.data.toList) w) := by
 have HRS : Hid (∀ W A C, Below w.heap.size w W → W.cell? ⟨A, 0, none⟩ = some (.func (.func 218) #[] #[.pointer (some ⟨C, 0, none⟩)]) → W.cell? ⟨C, 0, none⟩ = some (.string n) →
   Calls Tryz.prog 187 #[.map p, .slice (some ⟨A, 0, none⟩) 1 1] W (Names10 (of10 (plain10 T) n.data.toList) W)) := fun W A C hb hA hC => by
  have lA : A < W.heap.size := World.block_lt_of_cell? W _ hA
  have lC : C < W.heap.size := World.block_lt_of_cell? W _ hC
  rw [← of10_rows]
  cases p with
  | none =>
   have := h.nil rfl
   subst this
   exact rises10_nil _ W
  | some m =>
   exact rises10_calls m T (fun x => hasV x.2.2 n.data.toList) _ W h.rise hf ((h.later hb).map m rfl) (fun W' hb' y hy => everys_one A C y.2.1 y.2.2 n W' (Nat.le_trans hn (by decide)) ((hb'.cell (p := ⟨A, 0, none⟩) lA).trans hA) ((hb'.cell (p := ⟨C, 0, none⟩) lC).trans hC) (((h.later hb).later hb').sets y hy))
 have HI := Lib.hid h
 have HFN : Hid (∀ W, Calls Tryz.prog 190 #[.string n] W fun e w' => e = .returned (.func (.func 218) #[] #[.pointer (some ⟨W.heap.size, 0, none⟩)]) ∧ w' = W.alloc (.cells #[.string n] 9)) := fun W => hasfn_calls n W
 clear h
 generalize of10 (plain10 T) n.data.toList = ls at *
 go_enter Tryz.func141, Tryz.ntmps141
 go_wp2_with fail
 refine wp_region_inv (by kernel_rfl) (fun W => Below w.heap.size w W) (YOf10 B p n ls w) ?F ?hF (by kernel_rfl) (by kernel_rfl) (below_drew (Below.refl _ _)) ?step ?fin
 case hF =>
  intro x
  simp only [List.map_cons, List.map_nil, putL, Act.put, List.setIfInBounds_toArray, List.set_cons_zero, List.set_cons_succ, Nat.zero_add, Nat.reduceAdd]
  exact rfl
 case step =>
  refine ⟨?_, ?_, ?_, ?_, ?_, ?_, ?_, ?_, ?_, trivial⟩
  all_goals intro x W hW hdep K hK
  ·
   clear hdep
   go_simp
   exact hK _ _ rfl hW (fun _ _ h => h)
  ·
   have h0 : x 0 = _ := hdep 0 rfl
   clear hdep
   simp only [h0] at hK
   go_simp
   exact hK _ _ rfl hW (fun _ _ h => h)
  ·
   have h1 : x 1 = _ := hdep 1 rfl
   clear hdep
   simp only [h1] at hK
   go_simp
   exact hK _ _ rfl hW (fun _ _ h => h)
  ·
   have h2 : x 2 = _ := hdep 2 rfl
   have c := (HI.out.later hW).cell
   clear hdep
   simp only [h2] at hK
   go_simp
   exact hK _ _ rfl hW (fun _ _ h => h)
  ·
   clear hdep
   go_simp
   exact hK _ _ rfl hW (fun _ _ h => h)
  ·
   have h4 : x 4 = _ := hdep 4 rfl
   have hc := HFN.out W
   clear hdep
   simp only [h4] at hK
   go_simp
   refine hc.mono ?_
   rintro e W' ⟨rfl, rfl⟩
   have hb : Below W.heap.size W (W.alloc (.cells #[.string n] 9)) := below_alloc (Below.refl _ _) _
   exact hK _ _ ⟨W.heap.size, rfl, by rw [World.cell?_alloc_at _ _ _ _ rfl]; rfl⟩ (below_next hW hb) (YOf10_keep hb)
  ·
   obtain ⟨C, h5, hC⟩ := (show YOf10 B p n ls w 5 (x 5) W from hdep 5 rfl)
   simp only [h5] at hK
   have lC : C < W.heap.size := World.block_lt_of_cell? W _ hC
   clear hdep
   go_simp
   have hb : Below W.heap.size W (W.alloc (.cells #[.func (.func 218) #[] #[.pointer (some ⟨C, 0, none⟩)]] 213)) := below_alloc (Below.refl _ _) _
   exact hK _ _ ⟨W.heap.size, C, rfl, by rw [World.cell?_alloc_at _ _ _ _ rfl]; rfl, (hb.cell (p := ⟨C, 0, none⟩) lC).trans hC⟩ (below_next hW hb) (YOf10_keep hb)
  ·
   have h3 : x 3 = _ := hdep 3 rfl
   obtain ⟨A, C, h6, hA, hC⟩ := (show YOf10 B p n ls w 6 (x 6) W from hdep 6 rfl)
   have hc := HRS.out W A C hW hA hC
   simp only [h6] at hK
   clear hdep
   simp only [h3] at hK
   go_simp
   refine hc.mono ?_
   rintro e W' ⟨v, rfl, hr, hb⟩
   exact hK _ _ ⟨v, rfl, ownsRow_low10 hr hW.size, below_next hW hb⟩ (below_next hW hb) (YOf10_keep hb)
  ·
   have h7 : Names10 ls w (.returned (x 7)) W := hdep 7 rfl
   clear hdep
   go_simp
   exact hK _ _ h7 hW (fun _ _ h => h)
 case fin =>
  intro x W hW hY
  have h8 : Names10 ls w (.returned (x 8)) W := hY 8 (by decide)
  obtain ⟨v, he, hr, hb⟩ := h8
  injection he with he
  have HN : Hid (Names10 ls w (.returned v) W) := ⟨v, rfl, hr, hb⟩
  clear hY hW HI HFN HRS hr hb
  rw [he]
  go_wp2
  go_ret
  exact HN.out
end Go.Proofs.YtmcomnocpibiiaaGreatDoor
namespace Go.Proofs.YtmcomnocpibiiaaGreatDoor
open Go.RowKit Go.Maps

def stepT (f : Set10 → Set10) (ls : List (List UInt8)) (T : Rows10) : Rows10 := T.map fun x => if x.1 ∈ ls then (x.1, (x.2.1, f x.2.2)) else x
theorem stepT_mem {f : Set10 → Set10} {ls : List (List UInt8)} {T : Rows10} {x : List UInt8 × (Nat × Set10)} (hx : x ∈ T) (hn : x.1 ∉ ls) : x ∈ stepT f ls T := List.mem_map.2 ⟨x, hx, if_neg hn⟩
theorem stepT_snoc {f : Set10 → Set10} {ls : List (List UInt8)} {T : Rows10} {k : List UInt8} (hk : k ∉ ls) : updV (fun v => (v.1, f v.2)) (stepT f ls T) k = stepT f (ls ++ [k]) T := by
 unfold stepT updV
 rw [List.map_map]
 refine List.map_congr_left fun x _ => ?_
 by_cases e : x.1 ∈ ls
 ·
  have hne : x.1 ≠ k := fun e' => hk (e' ▸ e)
  simp [e, hne]
 ·
  by_cases e' : x.1 = k
  ·
   subst e'
   simp [e]
  ·
   simp [e, e']
theorem row10 {w : World} {base : Nat} {v : Value} {ls : List (List UInt8)} (h : w.ownsRow base 9 1 v ls.length (ls.map encStr)) :
  (v = .slice none 0 0 ∧ ls = []) ∨ ∃ g cap cur, v = .slice (some ⟨g, 0, none⟩) ls.length cap ∧ base ≤ g ∧ w.heap[g]? = some (.cells cur 9 (0, 0)) ∧ ∀ j (h : j < ls.length), cur[j]? = some (.string (tx10 ls[j])) := by
 rcases h.2 with ⟨rfl, hz⟩ | ⟨g, cap, cur, rfl, hb, hg, r1, r2, r3, r4⟩
 ·
  exact .inl ⟨rfl, List.eq_nil_of_length_eq_zero hz⟩
 ·
  refine .inr ⟨g, cap, cur, rfl, hb, hg, fun j hj => ?_⟩
  have h2 : (List.take (ls.length * 1) cur.toList)[j]? = some (.string (tx10 ls[j])) := by rw [r4]; simp [hj, encStr, tx10]
  rw [List.getElem?_take, if_pos (by omega)] at h2
  simpa using h2
theorem row10_at {w wr : World} {base : Nat} {v : Value} {ls : List (List UInt8)} {S : Nat → Prop} (h : w.ownsRow base 9 1 v ls.length (ls.map encStr)) (ht : Turns S w wr) (hS : ∀ i c T fr, w.heap[i]? = some (.cells c T fr) → T = 9 → ¬ S i) {k : Nat} (hk : k < ls.length) :
  ∃ g cap, v = .slice (some ⟨g, 0, none⟩) ls.length cap ∧ wr.cell? ⟨g, k, none⟩ = some (.string (tx10 ls[k])) := by
 rcases row10 h with ⟨_, rfl⟩ | ⟨g, cap, cur, rfl, _, hg, hc⟩
 ·
  exact absurd hk (Nat.not_lt_zero _)
 ·
  refine ⟨g, cap, rfl, ?_⟩
  have h1 : wr.heap[g]? = some (.cells cur 9 (0, 0)) := (ht.block g (Array.getElem?_eq_some_iff.1 hg).1 (hS g _ _ _ hg rfl)).trans hg
  have h2 := hc k hk
  simp [World.cell?, h1, h2]
theorem row10_shape {w : World} {base : Nat} {v : Value} {ls : List (List UInt8)} (h : w.ownsRow base 9 1 v ls.length (ls.map encStr)) : ∃ A c, v = .slice A ls.length c := by
 rcases row10 h with ⟨rfl, rfl⟩ | ⟨g, cap, cur, rfl, _⟩
 ·
  exact ⟨none, 0, rfl⟩
 ·
  exact ⟨_, cap, rfl⟩
theorem Grp10.step {w w' : World} {B : Nat} {p : Option Nat} {T : Rows10} {f : Set10 → Set10} {ls : List (List UInt8)} (h : Grp10 w B p (stepT f ls T)) {x : List UInt8 × (Nat × Set10)} (hx : x ∈ T) (hn : x.1 ∉ ls) (hs : Set10At w' x.2.1 (f x.2.2)) (ht : Turns (fun i => i = x.2.1) w w') : Grp10 w' B p (stepT f (ls ++ [x.1]) T) := by
 have := h.turned (stepT_mem hx hn) f hs ht
 rwa [stepT_snoc hn] at this


end Go.Proofs.YtmcomnocpibiiaaGreatDoor
namespace Go.Proofs.YtmcomnocpibiiaaGreatDoor
open Go.RowKit Go.Maps


def New10 (w W : World) (B : Nat) (p : Option Nat) (T : Rows10) : Prop := Grp10 W B p T ∧ w.heap.size ≤ B ∧ (∀ b, p = some b → w.heap.size ≤ b) ∧ ∀ x ∈ T, w.heap.size ≤ x.2.1
theorem PutTo10.new {w W W' : World} {B b : Nat} {p : Option Nat} {T : Rows10} {k : List UInt8} {l : Set10} (h : PutTo10 W B p (putV T k (b, l)) W') (hn : New10 w W B p T) (hw : w.heap.size ≤ W.heap.size) (hb : w.heap.size ≤ b) : ∃ p', New10 w W' B p' (putV T k (b, l)) ∧ Turns (fun i => i = B ∨ p = some i) W W' := by
 obtain ⟨p', hd, hp, ht⟩ := h
 obtain ⟨_, h1, h2, h3⟩ := hn
 refine ⟨p', ⟨hd, h1, fun c e => ?_, fun x hx => ?_⟩, ht⟩
 ·
  rcases hp c e with e | e
  ·
   exact h2 c e
  ·
   exact Nat.le_trans hw e
 ·
  rcases mem_putV.1 hx with rfl | ⟨hx, _⟩
  ·
   exact hb
  ·
   exact h3 x hx

end Go.Proofs.YtmcomnocpibiiaaGreatDoor
namespace Go.Proofs.YtmcomnocpibiiaaGreatDoor
open Go.ChangeShapes Go.WideShapes Go.ChangeAt Go.RowKit Go.Deep

section
variable {H : Type} {enc : TypeId × Value → H} {W : World} {base : Nat} {sp : Nat → Bool} {hd : Bool} {fuel : Nat}
end
end Go.Proofs.YtmcomnocpibiiaaGreatDoor
namespace Go.Proofs.YtmcomnocpibiiaaGreatDoor
open Go.RowKit Go.Maps

def Keeps10 (W w' : World) : Prop := ∀ (k : Nat) (c : Array Value) (T : TypeId) (fr : Nat × Nat), W.heap[k]? = some (.cells c T fr) → T ≠ 143 → w'.heap[k]? = some (.cells c T fr)
theorem Keeps10.of_below {W w' : World} (hb : Below W.heap.size W w') : Keeps10 W w' := fun k _ _ _ h _ => (hb.block k (Array.getElem?_eq_some_iff.1 h).1).trans h
theorem Keeps10.trans {a b c : World} (h : Keeps10 a b) (k : Keeps10 b c) : Keeps10 a c := fun i x T fr hi hT => k i x T fr (h i x T fr hi hT) hT
theorem Goes10.keeps {W w' : World} {B : Nat} {p : Option Nat} {T : Rows10} {S' : Grs10} (hd : Grp10 W B p T) (hg : Goes10 W B p T S' w') : Keeps10 W w' := by
 obtain ⟨_, _, _, _, _, _, ht⟩ := hg
 intro k c T fr hk hT
 refine (ht.block k (Array.getElem?_eq_some_iff.1 hk).1 ?_).trans hk
 rintro (rfl | e | ⟨x, hx, rfl⟩)
 ·
  rw [hd.blk] at hk
  injection hk with hk
  injection hk with _ h
  exact hT h.symm
 ·
  exact map_ne_cells10 (hd.map k e) hk rfl
 ·
  exact map_ne_cells10 (hd.sets x hx) hk rfl

section
variable {w0 W W' : World} {B k : Nat} {S : Grs10}

end



end Go.Proofs.YtmcomnocpibiiaaGreatDoor
namespace Go.Proofs.YtmcomnocpibiiaaGreatDoor
open Go.RowKit Go.Maps

def NmR (w : World) (v : Value) (N : List (List UInt8)) : Prop := w.ownsRow 0 9 1 v N.length (N.map encStr)
theorem ownsRow_keeps10 {w w' : World} {b : Nat} {e size n : Nat} {v : Value} {xs : List Value} (h : w.ownsRow b e size v n xs) (hk : Keeps10 w w') (he : e ≠ 143) : w'.ownsRow b e size v n xs := by
 refine ⟨h.1, ?_⟩
 rcases h.2 with hn | ⟨g, cap, cur, e1, h0, hg, hr⟩
 ·
  exact .inl hn
 ·
  exact .inr ⟨g, cap, cur, e1, h0, hk g _ _ _ hg he, hr⟩
section
variable {w w' : World} {v : Value} {N : List (List UInt8)} {M : List Who10}
theorem NmR.keeps (h : NmR w v N) (hk : Keeps10 w w') : NmR w' v N := ownsRow_keeps10 h hk (by decide)
theorem NmR.later (h : NmR w v N) (hb : Below w.heap.size w w') : NmR w' v N := ownsRow_below10 h hb
theorem NmR.of {b : Nat} (h : w.ownsRow b 9 1 v N.length (N.map encStr)) : NmR w v N := ownsRow_low10 h (Nat.zero_le _)
theorem NmR.nil (w : World) : NmR w (.slice none 0 0) [] := World.ownsRow_nil _ _ _ _
theorem NmR.at_ (h : NmR w v N) {k : Nat} (hk : k < N.length) : ∃ g cap, v = .slice (some ⟨g, 0, none⟩) N.length cap ∧ w.cell? ⟨g, k, none⟩ = some (.string (tx10 N[k])) :=
 row10_at h (Turns.refl (fun _ => False) w) (fun _ _ _ _ _ _ f => f) hk
theorem NmR.shape (h : NmR w v N) : ∃ A c, v = .slice A N.length c := row10_shape h
theorem NmR.src (h : NmR w v N) : Src Tryz.prog 1 28 v N.length (N.map encStr) w := by
 rcases h.2 with ⟨rfl, hz⟩ | ⟨g, cap, cur, rfl, hb, hg, r1, r2, r3, r4⟩
 ·
  have : N = [] := List.eq_nil_of_length_eq_zero hz
  subst this
  exact Src.ofNil w Tryz.underlying28 0
 ·
  refine Src.ofSlice w Tryz.underlying28 _ _ _ _ h.1 (fun j u hu => ?_) (fun u hu => by obtain ⟨x, _, rfl⟩ := List.mem_map.1 hu; rfl)
  have hj : j < N.length := by have := (List.getElem?_eq_some_iff.1 hu).1; simpa using this
  have h2 : (List.take (N.length * 1) cur.toList)[j]? = some u := by rw [r4]; exact hu
  rw [List.getElem?_take, if_pos (by omega)] at h2
  rw [Addr.add_lit, Nat.zero_add]
  simpa [World.cell?, hg] using h2
end



end Go.Proofs.YtmcomnocpibiiaaGreatDoor
namespace Go.Proofs.YtmcomnocpibiiaaGreatDoor
open Go.RowKit Go.Maps

def Bx10 (W : World) (b : Nat) (v1 v2 : Value) : Prop := W.heap[b]? = some (.cells #[v1, v2] 152 (0, 0))
section
variable {W W' : World} {b : Nat} {v1 v2 : Value}
theorem Bx10.c0 (h : Bx10 W b v1 v2) : W.cell? ⟨b, 0, none⟩ = some v1 := by simp [World.cell?, show W.heap[b]? = _ from h]
theorem Bx10.c1 (h : Bx10 W b v1 v2) : W.cell? ⟨b, 1, none⟩ = some v2 := by simp [World.cell?, show W.heap[b]? = _ from h]
theorem Bx10.f0 (h : Bx10 W b v1 v2) : W.frozen? ⟨b, 0, none⟩ = false := by simp [World.frozen?, show W.heap[b]? = _ from h]
theorem Bx10.f1 (h : Bx10 W b v1 v2) : W.frozen? ⟨b, 1, none⟩ = false := by simp [World.frozen?, show W.heap[b]? = _ from h]
theorem Bx10.lt (h : Bx10 W b v1 v2) : b < W.heap.size := (Array.getElem?_eq_some_iff.1 h).1
theorem Bx10.later (h : Bx10 W b v1 v2) (hb : Below W.heap.size W W') : Bx10 W' b v1 v2 := (hb.block b h.lt).trans h
theorem Bx10.turns {S : Nat → Prop} (h : Bx10 W b v1 v2) (ht : Turns S W W') (hS : ¬ S b) : Bx10 W' b v1 v2 := (ht.block b h.lt hS).trans h
end
theorem app10 {w1 wr w2 : World} {e : TypeId} {size n : Nat} {v : Value} {xs : List Value} {o : Obj} (hb : Below w1.heap.size w1 wr) (hu : wr.ownsRow w1.heap.size e size v n xs) (hg : (wr.alloc o).grownBy w2 v.ownBlock) : Below w1.heap.size w1 w2 :=
 (below_next hb (below_alloc (Below.refl _ _) _)).grown hg (by have := hb.size; simp; omega) (fun j hj => (hu.lt j hj).1)
theorem encStr_back10 (s : ByteArray) : Proofs.encStr s.data.toList = .string s := by
 show Value.string ⟨s.data.toList.toArray⟩ = _
 simp


end Go.Proofs.YtmcomnocpibiiaaGreatDoor
namespace Go.Proofs.YtmcomnocpibiiaaGreatDoor
open Go.RowKit Go.Maps

abbrev TG : TypeId := 152
end Go.Proofs.YtmcomnocpibiiaaGreatDoor
namespace Go.Proofs.YtmcomnocpibiiaaGreatDoor
open Go.RowKit Go.Maps

def KeepG (W w' : World) : Prop := ∀ (k : Nat) (c : Array Value) (T : TypeId) (fr : Nat × Nat), W.heap[k]? = some (.cells c T fr) → T ≠ TG → w'.heap[k]? = some (.cells c T fr)
theorem KeepG.trans {a b c : World} (h : KeepG a b) (k : KeepG b c) : KeepG a c := fun i x T fr hi hT => k i x T fr (h i x T fr hi hT) hT
theorem KeepG.of_below {W w' : World} (hb : Below W.heap.size W w') : KeepG W w' := fun k _ _ _ h _ => (hb.block k (Array.getElem?_eq_some_iff.1 h).1).trans h
theorem Bx10.keep {W : World} {b : Nat} {v1 v2 : Value} (h : Bx10 W b v1 v2) (i : Nat) (x : Value) : KeepG W (W.setCell ⟨b, i, none⟩ x) := fun k c T fr hk hT => by
 refine (Below.heap_setCell _ _ _ _ (fun e => hT ?_)).trans hk
 have e' : k = b := e
 rw [e', show W.heap[b]? = _ from h] at hk
 injection hk with hk
 injection hk with _ hk
 exact hk.symm
theorem Bx10.set0 {W : World} {b : Nat} {v1 v2 : Value} (h : Bx10 W b v1 v2) (x : Value) : Bx10 (W.setCell ⟨b, 0, none⟩ x) b x v2 := by
 have h' : W.heap[b]? = some (.cells #[v1, v2] TG (0, 0)) := h
 have hl := h.lt
 have := h'
 rw [Array.getElem?_eq_getElem hl] at this
 injection this with this
 show (W.setCell ⟨b, 0, none⟩ x).heap[b]? = _
 simp [World.setCell, hl, Array.getElem_modify, this]
theorem Bx10.set1 {W : World} {b : Nat} {v1 v2 : Value} (h : Bx10 W b v1 v2) (x : Value) : Bx10 (W.setCell ⟨b, 1, none⟩ x) b v1 x := by
 have h' : W.heap[b]? = some (.cells #[v1, v2] TG (0, 0)) := h
 have hl := h.lt
 have := h'
 rw [Array.getElem?_eq_getElem hl] at this
 injection this with this
 show (W.setCell ⟨b, 1, none⟩ x).heap[b]? = _
 simp [World.setCell, hl, Array.getElem_modify, this]
theorem Bx10.other {W : World} {b c i : Nat} {v1 v2 : Value} (h : Bx10 W b v1 v2) (hne : b ≠ c) (x : Value) : Bx10 (W.setCell ⟨c, i, none⟩ x) b v1 v2 := (Below.heap_setCell _ _ _ _ hne).trans h
theorem Below.cellG {w wr : World} {b i : Nat} (hb : Below w.heap.size w wr) (h : w.heap.size ≤ b) (x : Value) : Below w.heap.size w (wr.setCell ⟨b, i, none⟩ x) := hb.setCell (p := ⟨b, i, none⟩) h x
theorem fin2 {w wr : World} {b : Nat} {u1 u2 : Value} (hb : Below w.heap.size w wr) (hr : Bx10 wr b u1 u2) (h : w.heap.size ≤ b) (x y : Value) :
  Bx10 ((wr.setCell ⟨b, 0, none⟩ x).setCell ⟨b, 1, none⟩ y) b x y ∧ Below w.heap.size w ((wr.setCell ⟨b, 0, none⟩ x).setCell ⟨b, 1, none⟩ y) ∧ KeepG wr ((wr.setCell ⟨b, 0, none⟩ x).setCell ⟨b, 1, none⟩ y) :=
 ⟨(hr.set0 x).set1 y, Below.cellG (Below.cellG hb h x) h y, (hr.keep 0 x).trans ((hr.set0 x).keep 1 y)⟩
end Go.Proofs.YtmcomnocpibiiaaGreatDoor
namespace Go.Proofs.YtmcomnocpibiiaaGreatDoor
open Go.RowKit Go.Maps


end Go.Proofs.YtmcomnocpibiiaaGreatDoor
namespace Go.Proofs.YtmcomnocpibiiaaGreatDoor
open Go.RowKit Go.Maps


end Go.Proofs.YtmcomnocpibiiaaGreatDoor
