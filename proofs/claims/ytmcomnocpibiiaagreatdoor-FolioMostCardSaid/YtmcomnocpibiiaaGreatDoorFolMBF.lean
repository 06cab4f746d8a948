/-
  The texts that the laws of this seat share, part 6: what the code and the document's own answers tell, walked function by function.
  Conditions: each theorem's own.
-/
import Derived.Laws.Cover1
import Derived.Shelf.SlIter.Nil
import Derived.Test.YtmcomnocpibiiaaGreatDoorFolMBA
import Derived.Test.YtmcomnocpibiiaaGreatDoorFolMBB
import Derived.Test.YtmcomnocpibiiaaGreatDoorFolMBC
import Derived.Test.YtmcomnocpibiiaaGreatDoorFolMBD
import Derived.Test.YtmcomnocpibiiaaGreatDoorFolMBE
namespace Go.Proofs.YtmcomnocpibiiaaGreatDoor
open Go.RowKit Go.Maps Go.Sort Go.Shelf

def mayE11 : List Us → Int
 | [] => 0
 | u :: r => if chk6 2 u = 0 then mayE11 r else chk6 2 u
def ofE11 (l : List Us) : Int := first7 [mayE11 l, err5 (rise6 (l.map (·.nm))) 9, err5 (decide ((l.length : Int) ≤ 12)) 7]

end Go.Proofs.YtmcomnocpibiiaaGreatDoor
namespace Go.Proofs.YtmcomnocpibiiaaGreatDoor
open Go.RowKit Go.Maps

structure U11 where
 hs : List UInt8
 ml : List UInt8
 dis : Bool
 gs : List (List UInt8)
abbrev Acc11 := RowV (List UInt8 × Bool)
abbrev Usr11 := RowV U11
def tell1 (L : Row7) (S : Grs10) (n : List UInt8) (a : List UInt8 × Bool) : U11 := ⟨a.1, getE L n, a.2, of10 S n⟩
def tell11 (A : Acc11) (L : Row7) (S : Grs10) : Usr11 := A.map fun p => (p.1, tell1 L S p.1 p.2)

section
variable {V : Type}
theorem extV11 : ∀ {a b : RowV V}, RiseV a → RiseV b → (∀ x, x ∈ a ↔ x ∈ b) → a = b
 | [], [], _, _, _ => rfl
 | [], y :: s, _, _, h => absurd ((h y).2 (by simp)) (by simp)
 | x :: r, [], _, _, h => absurd ((h x).1 (by simp)) (by simp)
 | x :: r, y :: s, ha, hb, h => by
  obtain ⟨a1, a2⟩ := List.pairwise_cons.1 ha
  obtain ⟨b1, b2⟩ := List.pairwise_cons.1 hb
  have e : x = y := by
   rcases List.mem_cons.1 ((h x).1 (by simp)) with e | hx
   ·
    exact e
   ·
    rcases List.mem_cons.1 ((h y).2 (by simp)) with e | hy
    ·
     exact e.symm
    ·
     exact absurd (b1 _ hx) (by rw [before_anti (a1 _ hy)]; exact Bool.noConfusion)
  subst e
  rw [extV11 a2 b2 fun z => ?_]
  constructor
  ·
   intro hz
   rcases List.mem_cons.1 ((h z).1 (by simp [hz])) with e | h'
   ·
    subst e; exact absurd (a1 _ hz) (by rw [before_irrefl]; exact Bool.noConfusion)
   ·
    exact h'
  ·
   intro hz
   rcases List.mem_cons.1 ((h z).2 (by simp [hz])) with e | h'
   ·
    subst e; exact absurd (b1 _ hz) (by rw [before_irrefl]; exact Bool.noConfusion)
   ·
    exact h'
theorem ext11 {a b : RowV V} (ha : RiseV a) (hb : RiseV b) (h : ∀ k, getV a k = getV b k) : a = b :=
 extV11 ha hb fun x => by rw [← getV_some (k := x.1) (v := x.2) ha, ← getV_some (k := x.1) (v := x.2) hb, h]
theorem get_put11 {L : RowV V} (hr : RiseV L) (k : List UInt8) (v : V) (x : List UInt8) : getV (putV L k v) x = if x = k then some v else getV L x := by
 refine Option.ext fun y => ?_
 rw [getV_some (riseV_put hr k v), mem_putV]
 by_cases e : x = k
 ·
  subst e
  rw [if_pos rfl]
  constructor
  ·
   rintro (h | ⟨_, h⟩)
   ·
    injection h with _ h; rw [h]
   ·
    exact absurd rfl h
  ·
   intro h; injection h with h; rw [h]; exact .inl rfl
 ·
  rw [if_neg e, getV_some hr]
  constructor
  ·
   rintro (h | ⟨h, _⟩)
   ·
    injection h with h; exact absurd h e
   ·
    exact h
  ·
   intro h; exact .inr ⟨h, e⟩
end

section
variable {A : Acc11} {L : Row7} {S : Grs10}
theorem tell_names (A : Acc11) (L : Row7) (S : Grs10) : names10 (tell11 A L S) = names10 A := by
 unfold tell11 names10; rw [List.map_map]; rfl
theorem tell_len (A : Acc11) (L : Row7) (S : Grs10) : (tell11 A L S).length = A.length := List.length_map _
theorem tell_rise (h : RiseV A) : RiseV (tell11 A L S) := riseV_names h (tell_names A L S)
theorem tell_has (A : Acc11) (L : Row7) (S : Grs10) (k : List UInt8) : hasV (tell11 A L S) k = hasV A k := by
 rw [Bool.eq_iff_iff, hasV_names, hasV_names, tell_names]
theorem tell_get (h : RiseV A) (k : List UInt8) : getV (tell11 A L S) k = (getV A k).map (tell1 L S k) := by
 refine Option.ext fun y => ?_
 rw [getV_some (tell_rise h)]
 unfold tell11
 rw [List.mem_map]
 constructor
 ·
  rintro ⟨p, hp, e⟩
  injection e with e1 e2
  subst e1
  rw [(getV_some (k := p.1) (v := p.2) h).2 hp, ← e2]; rfl
 ·
  intro hy
  cases hg : getV A k with
  | none => rw [hg] at hy; cases hy
  | some a =>
   rw [hg] at hy
   injection hy with hy
   exact ⟨(k, a), (getV_some h).1 hg, by rw [← hy]⟩

/-! ### addresses -/
theorem getE_del (L : Row7) (n x : List UInt8) : getE (delE L n) x = if x = n then [] else getE L x := by
 by_cases e : x = n
 ·
  subst e; rw [if_pos rfl]; exact getE_none (hasE_del L x)
 ·
  rw [if_neg e]
  cases h : hasE L x with
  | false => rw [getE_none h, getE_none (by rw [hasE_del_ne e]; exact h)]
  | true =>
   have h1 := hasE_mem h
   unfold getE delE
   have : ∀ M : Row7, ((M.filter fun p => !(p.1 == n)).find? fun p => p.1 == x) = M.find? fun p => p.1 == x := by
    intro M
    induction M with
    | nil => rfl
    | cons y r ih =>
     by_cases ey : y.1 = n
     ·
      have : (y.1 == x) = false := by simp [ey]; exact fun h => e h.symm
      rw [List.filter_cons_of_neg (by simp [ey]), ih, List.find?_cons_of_neg (by simp [this])]
     ·
      rw [List.filter_cons_of_pos (by simp [ey])]
      by_cases ex : y.1 = x
      ·
       rw [List.find?_cons_of_pos (by simp [ex]), List.find?_cons_of_pos (by simp [ex])]
      ·
       rw [List.find?_cons_of_neg (by simp [ex]), List.find?_cons_of_neg (by simp [ex]), ih]
   rw [this]
theorem getE_put (hr : Rise7 L) (n a x : List UInt8) : getE (putE L n a) x = if x = n then a else getE L x := by
 by_cases e : x = n
 ·
  subst e; rw [if_pos rfl, get_put hr]
 ·
  rw [if_neg e]
  cases h : hasE L x with
  | true =>
   have h1 := hasE_mem h
   exact get_mem (rise_put hr n a) (q := (x, getE L x)) (mem_putE.2 (.inr ⟨h1, e⟩))
  | false =>
   rw [getE_none h]
   refine getE_none ?_
   cases h2 : hasE (putE L n a) x with
   | false => rfl
   | true =>
    obtain ⟨p, hp, hx⟩ := hasE_iff.1 h2
    rcases mem_putE.1 hp with rfl | ⟨hp, _⟩
    ·
     exact absurd hx.symm e
    ·
     rw [hasE_iff.2 ⟨p, hp, hx⟩] at h; cases h

/-! ### groups -/
theorem rel11 (hr : RiseV S) : ∃ M, Rel10 S (names10 S) M :=
 ⟨S.flatMap fun p => p.2.map fun m => (p.1, m.1), rfl, fun g n => by
  rw [in10_iff hr, List.mem_flatMap]
  constructor
  ·
   rintro ⟨p, hp, h⟩
   obtain ⟨m, hm, e⟩ := List.mem_map.1 h
   injection e with e1 e2
   exact ⟨p, hp, e1, hasV_iff.2 ⟨m, hm, e2⟩⟩
  ·
   rintro ⟨p, hp, e1, h⟩
   obtain ⟨m, hm, e2⟩ := hasV_iff.1 h
   exact ⟨p, hp, List.mem_map.2 ⟨m, hm, by rw [e1, e2]⟩⟩⟩
variable {k : Nat}
theorem in_make (hg : Good10 S k) {g : List UInt8} (he : maE10 S g = 0) (x n : List UInt8) : in10 (maS10 S g) x n = in10 S x n := by
 unfold maS10
 rw [if_pos he, in10_put hg.rise (maE10_zero he).2.1]
theorem in_join (hg : Good10 S k) {g n : List UInt8} (he : joE10 S g n = 0) (x m : List UInt8) : in10 (joS10 S g n) x m = true ↔ in10 S x m = true ∨ (x = g ∧ m = n) := by
 obtain ⟨M, hM⟩ := rel11 hg.rise
 rw [← (hM.join hg he).mem, List.mem_append, hM.mem]
 simp

theorem ofT {S' : Grs10} (hr : RiseV S) (hr' : RiseV S') {n n' : List UInt8} (h : ∀ g, in10 S' g n' = true ↔ in10 S g n = true) : of10 S' n' = of10 S n :=
 riseT_ext (of10_rise hr' n') (of10_rise hr n) fun g => by rw [of10_mem hr', of10_mem hr, h]
theorem of_make (hg : Good10 S k) {g : List UInt8} (he : maE10 S g = 0) (n : List UInt8) : of10 (maS10 S g) n = of10 S n :=
 ofT hg.rise (good_make hg g).rise fun x => by rw [in_make hg he]
end
end Go.Proofs.YtmcomnocpibiiaaGreatDoor
namespace Go.Proofs.YtmcomnocpibiiaaGreatDoor
open Go.RowKit Go.Maps

structure Good11 (A : Acc11) (L : Row7) (S : Grs10) (k : Nat) : Prop where
 rise : RiseV A
 few : A.length ≤ 12
 nm : ∀ p ∈ A, name5 p.1 = true ∧ hash5 p.2.1 = true
 mir : ∃ M, Mirror9 L M
 all : ∀ x ∈ L, May9 x
 has : ∀ x ∈ L, hasV A x.1 = true
 lfew : L.length ≤ k
 grp : Good10 S k
 mem : ∀ g n, in10 S g n = true → hasV A n = true
theorem Good11.nil : Good11 [] [] [] 0 := ⟨List.Pairwise.nil, by simp, (fun _ h => nomatch h), ⟨[], Mirror9.nil⟩, (fun _ h => nomatch h), (fun _ h => nomatch h), Nat.le_refl _, Good10.nil, fun g n h => by simp [in10, mem10, getV, hasV] at h⟩

def smF11 (a b c d : Bool) : Int := if a then (if b then (if c then (if d then 9 else 0) else 8) else 11) else 10

/-! ### of the code -/
def disA (A : Acc11) (n : List UInt8) : Bool := match getV A n with | some a => a.2 | none => false
def hasA (A : Acc11) (n : List UInt8) : List UInt8 := match getV A n with | some a => a.1 | none => []
def isM11 (m : List UInt8) : Bool := decide (m = []) || mail5 m
def smE11 (A : Acc11) (L : Row7) (n m : List UInt8) : Int := smF11 (name5 n) (isM11 m) (hasV A n) (decide (seE9 L n m = 9))
def smL11 (A : Acc11) (L : Row7) (n m : List UInt8) : Row7 := if smE11 A L n m = 0 then seL9 L n m else L

/-! ### of the document -/
def setU (l : Usr11) (n : List UInt8) (f : U11 → U11) : Usr11 := match getV l n with | some u => putV l n (f u) | none => l
def badU (l : Usr11) (n a : List UInt8) : Bool := l.any fun p => !(a == []) && (p.2.ml == a) && !(p.1 == n)
def foldM11 (m : List UInt8) : List UInt8 := if mail5 m then fold5 m else []
def dsmE (l : Usr11) (n m : List UInt8) : Int := smF11 (name5 n) (isM11 m) (hasV l n) (badU l n (foldM11 m))
def dsmL (l : Usr11) (n m : List UInt8) : Usr11 := if dsmE l n m = 0 then setU l n (fun u => { u with ml := foldM11 m }) else l
def dmaE11 (N : List (List UInt8)) (g : List UInt8) : Int := if name5 g then (if hasT N g then 9 else if 6 ≤ N.length then 7 else 0) else 10
def dmaN11 (N : List (List UInt8)) (g : List UInt8) : List (List UInt8) := if dmaE11 N g = 0 then sortT (N ++ [g]) else N

section
variable {A : Acc11} {L : Row7} {S : Grs10} {k : Nat}
theorem Good11.free (h : Good11 A L S k) {n : List UInt8} (hn : hasV A n = false) : hasE L n = false ∧ getE L n = [] ∧ of10 S n = [] := by
 have h1 : hasE L n = false := by
  cases hh : hasE L n with
  | false => rfl
  | true =>
   obtain ⟨x, hx, e⟩ := hasE_iff.1 hh
   have := h.has x hx
   rw [e, hn] at this; cases this
 refine ⟨h1, getE_none h1, List.eq_nil_iff_forall_not_mem.2 fun g hg => ?_⟩
 have := h.mem g n ((of10_mem h.grp.rise).1 hg)
 rw [hn] at this; cases this
theorem Good11.lrise (h : Good11 A L S k) : Rise7 L := by obtain ⟨_, h⟩ := h.mir; exact h.rl
theorem tell_one (h : RiseV A) {L' : Row7} {S' : Grs10} {n : List UInt8} {f : U11 → U11} (ho : ∀ x, x ≠ n → getE L' x = getE L x ∧ of10 S' x = of10 S x) (hn : ∀ a, getV A n = some a → tell1 L' S' n a = f (tell1 L S n a)) : tell11 A L' S' = setU (tell11 A L S) n f := by
 unfold setU
 rw [tell_get h]
 cases hh : getV A n with
 | none =>
  refine ext11 (tell_rise h) (tell_rise h) fun x => ?_
  show _ = getV (tell11 A L S) x
  rw [tell_get h, tell_get h]
  by_cases e : x = n
  ·
   subst e; rw [hh]; rfl
  ·
   unfold tell1; rw [(ho x e).1, (ho x e).2]
 | some a =>
  refine ext11 (tell_rise h) (riseV_put (tell_rise h) n _) fun x => ?_
  show _ = getV (putV (tell11 A L S) n (f (tell1 L S n a))) x
  rw [tell_get h, get_put11 (tell_rise h), tell_get h]
  by_cases e : x = n
  ·
   subst e; rw [if_pos rfl, hh, ← hn a hh]; rfl
  ·
   rw [if_neg e]; unfold tell1; rw [(ho x e).1, (ho x e).2]

theorem Good11.put (h : Good11 A L S k) {n : List UInt8} {a : List UInt8 × Bool} (hn : name5 n = true) (ha : hash5 a.1 = true) (hf : (putV A n a).length ≤ 12) : Good11 (putV A n a) L S (k + 1) := by
 have hk : ∀ x, hasV A x = true → hasV (putV A n a) x = true := fun x hx => hasV_put.2 (.inr hx)
 refine ⟨riseV_put h.rise n a, hf, fun p hp => ?_, h.mir, h.all, fun x hx => hk _ (h.has x hx), Nat.le_succ_of_le h.lfew, h.grp.mono (Nat.le_succ _), fun g m hm => hk _ (h.mem g m hm)⟩
 rcases mem_putV.1 hp with rfl | ⟨hp, _⟩
 ·
  exact ⟨hn, ha⟩
 ·
  exact h.nm p hp
theorem Good11.mono (h : Good11 A L S k) {j : Nat} (hj : k ≤ j) : Good11 A L S j := ⟨h.rise, h.few, h.nm, h.mir, h.all, h.has, Nat.le_trans h.lfew hj, h.grp.mono hj, h.mem⟩

def One11 (A' : Acc11) (L' : Row7) (S' : Grs10) (l' : Usr11) (N' : List (List UInt8)) (k : Nat) : Prop := Good11 A' L' S' k ∧ tell11 A' L' S' = l' ∧ names10 S' = N'
theorem smF_zero {a b c d : Bool} (h : smF11 a b c d = 0) : a = true ∧ b = true ∧ c = true ∧ d = false := by revert h; cases a <;> cases b <;> cases c <;> cases d <;> decide

end
end Go.Proofs.YtmcomnocpibiiaaGreatDoor
namespace Go.Proofs.YtmcomnocpibiiaaGreatDoor
open Go.RowKit Go.Maps

section
variable {A : Acc11} {L : Row7} {S : Grs10} {k : Nat}
theorem has_of_get {n a : List UInt8} (h : getE L n = a) (ha : a ≠ []) : (n, a) ∈ L := by
 cases hh : hasE L n with
 | true => have := hasE_mem hh; rwa [h] at this
 | false => rw [getE_none hh] at h; exact absurd h.symm ha
theorem fold_ne {m : List UInt8} (h : mail5 m = true) : fold5 m ≠ [] := fun e => by
 have := mail5_again9 m
 rw [e, h, mail5_nil] at this; cases this
theorem bad_same (hg : Good11 A L S k) (n : List UInt8) {a : List UInt8} (ha : a ≠ []) : badU (tell11 A L S) n a = bad9 L n a := by
 obtain ⟨M, hM⟩ := hg.mir
 rw [Bool.eq_iff_iff]
 unfold badU bad9
 simp only [List.any_eq_true, Bool.and_eq_true, Bool.not_eq_true', beq_eq_false_iff_ne, beq_iff_eq, decide_eq_true_eq]
 constructor
 ·
  rintro ⟨p, hp, ⟨_, h2⟩, h3⟩
  obtain ⟨q, hq, rfl⟩ := List.mem_map.1 hp
  have h4 : (q.1, a) ∈ L := has_of_get h2 ha
  exact ⟨mem_hasO h4, by rw [hM.own h4]; exact h3⟩
 ·
  rintro ⟨h1, h2⟩
  have h3 := hasO_mem h1
  obtain ⟨p, hp, e⟩ := hasV_iff.1 (hg.has _ h3)
  refine ⟨_, List.mem_map.2 ⟨p, hp, rfl⟩, ⟨ha, ?_⟩, ?_⟩
  ·
   show getE L p.1 = a
   rw [e]; exact get_mem hg.lrise h3
  ·
   show ¬ p.1 = n
   rw [e]; exact h2
theorem sm_same (hg : Good11 A L S k) (n m : List UInt8) : dsmE (tell11 A L S) n m = smE11 A L n m := by
 unfold dsmE smE11
 rw [tell_has]
 cases h1 : name5 n with
 | false => rfl
 | true =>
  by_cases hm : m = []
  ·
   subst hm
   have : badU (tell11 A L S) n (foldM11 []) = decide (seE9 L n [] = 9) := by
    have e1 : foldM11 [] = [] := rfl
    rw [e1]
    have e2 : seE9 L n [] = 0 := by unfold seE9; rw [if_pos h1, if_pos rfl]
    rw [e2]
    unfold badU
    rw [List.any_eq_false.2 (fun p _ => by simp)]
    rfl
   rw [this]
  ·
   cases h2 : mail5 m with
   | false =>
    have : isM11 m = false := by unfold isM11; rw [h2, decide_eq_false hm]; rfl
    rw [this]; rfl
   | true =>
    have e1 : foldM11 m = fold5 m := by unfold foldM11; rw [if_pos h2]
    rw [e1, bad_same hg n (fold_ne h2)]
    have : decide (seE9 L n m = 9) = bad9 L n (fold5 m) := by
     unfold seE9
     rw [if_pos h1, if_neg hm, if_pos h2]
     cases bad9 L n (fold5 m) <;> rfl
    rw [this]
theorem smE_zero {n m : List UInt8} (h : smE11 A L n m = 0) : name5 n = true ∧ isM11 m = true ∧ hasV A n = true ∧ seE9 L n m = 0 ∧ (m ≠ [] → bad9 L n (fold5 m) = false ∧ mail5 m = true) := by
 obtain ⟨h1, h2, h3, h4⟩ := smF_zero h
 rw [decide_eq_false_iff_not] at h4
 refine ⟨h1, h2, h3, ?_⟩
 unfold seE9 at h4 ⊢
 rw [if_pos h1] at h4 ⊢
 by_cases hm : m = []
 ·
  rw [if_pos hm]; exact ⟨rfl, fun h => absurd hm h⟩
 ·
  have h5 : mail5 m = true := by unfold isM11 at h2; rw [decide_eq_false hm, Bool.false_or] at h2; exact h2
  rw [if_neg hm, if_pos h5] at h4 ⊢
  cases hb : bad9 L n (fold5 m) with
  | true => rw [hb] at h4; exact absurd rfl h4
  | false => exact ⟨rfl, fun _ => ⟨rfl, h5⟩⟩
theorem sm_one (hg : Good11 A L S k) (n m : List UInt8) : One11 A (smL11 A L n m) S (dsmL (tell11 A L S) n m) (names10 S) (k + 1) := by
 unfold smL11 dsmL
 rw [sm_same hg]
 by_cases e : smE11 A L n m = 0
 case neg => rw [if_neg e, if_neg e]; exact ⟨hg.mono (Nat.le_succ _), rfl, rfl⟩
 rw [if_pos e, if_pos e]
 obtain ⟨h1, h2, h3, h4, h5⟩ := smE_zero e
 unfold seL9
 rw [if_pos h4]
 obtain ⟨M, hM⟩ := hg.mir
 have hd : ∃ M, Mirror9 (delE L n) M := by
  cases hh : hasE L n with
  | true => exact ⟨_, hM.del hh⟩
  | false => rw [del_of_not hh]; exact ⟨M, hM⟩
 by_cases hm : m = []
 ·
  subst hm
  rw [if_pos rfl]
  refine ⟨⟨hg.rise, hg.few, hg.nm, hd, fun x hx => hg.all x (mem_del.1 hx).1, fun x hx => hg.has x (mem_del.1 hx).1, Nat.le_succ_of_le (Nat.le_trans (List.length_filter_le _ _) hg.lfew), hg.grp.mono (Nat.le_succ _), hg.mem⟩, ?_, rfl⟩
  refine tell_one hg.rise (fun x hx => ⟨by rw [getE_del, if_neg hx], rfl⟩) (fun a _ => ?_)
  show tell1 (delE L n) S n a = { tell1 L S n a with ml := [] }
  unfold tell1
  rw [getE_del, if_pos rfl]
 ·
  rw [if_neg hm]
  obtain ⟨h6, h7⟩ := h5 hm
  have hput : ∃ M, Mirror9 (putE L n (fold5 m)) M := by
   obtain ⟨M', hM'⟩ := hd
   rw [← put_del hg.lrise]
   exact ⟨_, hM'.put (hasE_del L n) (free9 hM h6)⟩
  refine ⟨⟨hg.rise, hg.few, hg.nm, hput, fun x hx => ?_, fun x hx => ?_, ?_, hg.grp.mono (Nat.le_succ _), hg.mem⟩, ?_, rfl⟩
  ·
   rcases mem_putE.1 hx with rfl | ⟨hx, _⟩
   ·
    exact May9.of h1 h7
   ·
    exact hg.all x hx
  ·
   rcases mem_putE.1 hx with rfl | ⟨hx, _⟩
   ·
    exact h3
   ·
    exact hg.has x hx
  ·
   rw [put_length hg.lrise]
   have := hg.lfew
   split <;> omega
  ·
   refine tell_one hg.rise (fun x hx => ⟨by rw [getE_put hg.lrise, if_neg hx], rfl⟩) (fun a _ => ?_)
   show tell1 (putE L n (fold5 m)) S n a = { tell1 L S n a with ml := foldM11 m }
   unfold tell1 foldM11
   rw [getE_put hg.lrise, if_pos rfl, if_pos h7]


theorem tell_same {S' : Grs10} (h : ∀ n, of10 S' n = of10 S n) : tell11 A L S' = tell11 A L S := by
 unfold tell11 tell1
 exact List.map_congr_left fun p _ => by rw [h]
theorem ma_same (g : List UInt8) : dmaE11 (names10 S) g = maE10 S g := by
 obtain h : hasT (names10 S) g = hasV S g := by rw [Bool.eq_iff_iff, hasT_iff, hasV_names]
 unfold dmaE11 maE10
 rw [h, names10_length]
theorem ma_one (hg : Good11 A L S k) (g : List UInt8) : One11 A L (maS10 S g) (tell11 A L S) (dmaN11 (names10 S) g) (k + 1) := by
 by_cases e : maE10 S g = 0
 case neg =>
  unfold dmaN11 maS10
  rw [ma_same, if_neg e, if_neg e]; exact ⟨hg.mono (Nat.le_succ _), rfl, rfl⟩
 refine ⟨⟨hg.rise, hg.few, hg.nm, hg.mir, hg.all, hg.has, Nat.le_succ_of_le hg.lfew, (good_make hg.grp g).mono (Nat.le_succ _), fun x n h => ?_⟩, tell_same (of_make hg.grp e), ?_⟩
 ·
  rw [in_make hg.grp e] at h; exact hg.mem x n h
 ·
  obtain ⟨M, hM⟩ := rel11 hg.grp.rise
  have := (hM.make hg.grp e).names
  unfold dmaN11
  rw [ma_same, if_pos e, this]
end
end Go.Proofs.YtmcomnocpibiiaaGreatDoor
namespace Go.Proofs.YtmcomnocpibiiaaGreatDoor
open Go.RowKit Go.Maps

/-! ### accounts -/
def ea11 : List UInt8 × Bool → DataW Unit := fun a => .agg [.lit (.string a.1), .lit (.bool a.2)]
def rdA11 : List Value → Option (DataW Unit × List MemPlace)
 | [.string s, .bool b] => some (.agg [.lit (.string s.data.toList), .lit (.bool b)], [])
 | _ => none
def RA11 : Value → Option (DataW Unit × List MemPlace)
 | .agg c => rdA11 c.toList
 | _ => none
theorem ra11_inv {v : Value} {z : DataW Unit × List MemPlace} (h : RA11 v = some z) : ∃ s b, v = .agg #[.string s, .bool b] ∧ z = (ea11 (s.data.toList, b), []) := by
 unfold RA11 at h
 split at h
 ·
  rename_i c
  unfold rdA11 at h
  split at h
  ·
   rename_i s b hc
   injection h with h
   refine ⟨s, b, ?_, h.symm⟩
   have : c = [Value.string s, Value.bool b].toArray := by rw [← hc]
   rw [this]
  ·
   cases h
 ·
  cases h
theorem ra11_at (s : ByteArray) (b : Bool) : RA11 (.agg #[.string s, .bool b]) = some (ea11 (s.data.toList, b), []) := rfl
def Acc11At (w : World) (P : Nat) (A : Acc11) : Prop := w.ownsMap Tryz.prog 9 RA11 P A.length (datV ea11 A)
theorem Acc11At.of {w : World} {P n : Nat} {A : Acc11} (h : w.ownsMap Tryz.prog 9 RA11 P n (datV ea11 A)) : Acc11At w P A := by
 have := ownsMap_tight10 h
 rwa [datV_size] at this
theorem Acc11At.kept {w w' : World} {P : Nat} {A : Acc11} (h : Acc11At w P A) (hb : w'.heap[P]? = w.heap[P]?) : Acc11At w' P A := by
 obtain ⟨es, clock, h1, r⟩ := h
 exact ⟨es, clock, hb.trans h1, r⟩
theorem Acc11At.lt {w : World} {P : Nat} {A : Acc11} (h : Acc11At w P A) : P < w.heap.size := World.ownsMap.lt h
theorem zeroa11 (w : World) : (zeroValue 109).run Tryz.prog w = .ok (.agg #[.string ⟨#[]⟩, .bool false]) w := by kernel_rfl
theorem at_acc11 (A : Acc11) (k : List UInt8) : (datV ea11 A).atKey (.string k) (ea11 ([], false)) = ea11 (hasA A k, disA A k) := by
 unfold hasA disA
 cases h : getV A k with
 | none => rw [atV_none _ h]
 | some v => rw [atV_some _ h]
theorem accs11_made (w : World) : Acc11At (w.alloc (.map #[] 0)) w.heap.size [] :=
 Acc11At.of (n := 0) (World.ownsMap_made (H := Unit) w Tryz.prog 9 RA11)
def av11 (A : Acc11) (k : List UInt8) : Value := .agg #[.string (tx10 (hasA A k)), .bool (disA A k)]
section
variable {w : World} {P : Nat} {A : Acc11}
theorem acc11_v {s : ByteArray} {v : Value} {ps : List MemPlace} (hv : RA11 v = some ((datV ea11 A).atKey (.string s.data.toList) (ea11 ([], false)), ps)) : v = av11 A s.data.toList := by
 obtain ⟨c, b, rfl, hc⟩ := ra11_inv hv
 rw [at_acc11] at hc
 injection hc with hc _
 unfold ea11 at hc
 injection hc with hc
 injection hc with h1 h2
 injection h1 with h1
 injection h1 with h1
 injection h2 with h2 _
 injection h2 with h2
 injection h2 with h2
 have h1' : hasA A s.data.toList = c.data.toList := h1
 have h2' : disA A s.data.toList = b := h2
 unfold av11
 rw [h1', h2', tx10_back]
theorem lookA11 (h : Acc11At w P A) (s : ByteArray) (hs : s.size ≤ maxLen) :
  (Instr.lookup 78 (.map (some P)) (.string s) true).run Tryz.prog w = .ok (.tuple #[av11 A s.data.toList, .bool (hasV A s.data.toList)]) w := by
 obtain ⟨v, ps, hrun, hv⟩ := World.ownsMap.look_ok h keyed10 Tryz.underlying78 (zeroa11 w) (ra11_at ⟨#[]⟩ false) (key10 s hs)
 rw [hrun, datV_has, acc11_v hv]
theorem lookA111 (h : Acc11At w P A) (s : ByteArray) (hs : s.size ≤ maxLen) :
  (Instr.lookup 78 (.map (some P)) (.string s) false).run Tryz.prog w = .ok (av11 A s.data.toList) w := by
 obtain ⟨v, ps, hrun, hv⟩ := World.ownsMap.lookup h keyed10 Tryz.underlying78 (zeroa11 w) (ra11_at ⟨#[]⟩ false) (key10 s hs)
 rw [hrun, acc11_v hv]
theorem storeA11 (h : Acc11At w P A) (hf : A.length ≤ 1000) (s v : ByteArray) (b : Bool) (hs : s.size ≤ maxLen) :
  ∃ w', (Instr.mapUpdate 78 (.map (some P)) (.string s) (.agg #[.string v, .bool b])).run Tryz.prog w = .ok () w' ∧ Acc11At w' P (putV A s.data.toList (v.data.toList, b)) ∧ w.mapTurned w' P := by
 obtain ⟨w', hrun, hown, ht⟩ := World.ownsMap.store h keyed10 Tryz.underlying78 (Nat.lt_of_le_of_lt hf (by decide)) (key10 s hs) (ra11_at v b)
 rw [datV_put] at hown
 exact ⟨w', hrun, Acc11At.of hown, ht⟩
theorem dropA11 (h : Acc11At w P A) (s : ByteArray) (hs : s.size ≤ maxLen) (ty : TypeId) :
  ∃ w', (Builtin.delete_ #[78, 9] ty #[.map (some P), .string s]).run Tryz.prog w = .ok (.tuple #[]) w' ∧ Acc11At w' P (delV A s.data.toList) ∧ w.mapTurned w' P := by
 obtain ⟨w', hrun, hown, ht⟩ := World.ownsMap.drop h keyed10 Tryz.underlying78 (key10 s hs) ty
 rw [datV_del] at hown
 exact ⟨w', hrun, Acc11At.of hown, ht⟩
end

/-! ### the directory -/
def fpM11 (M : Nat) (p q : Option Nat) (i : Nat) : Prop := i = M ∨ p = some i ∨ q = some i
def fpG11 (G : Nat) (pg : Option Nat) (T : Rows10) (i : Nat) : Prop := i = G ∨ pg = some i ∨ ∃ x ∈ T, x.2.1 = i
structure Nwr11 (w : World) (D P : Nat) (A : Acc11) (M : Nat) (p q : Option Nat) (L LM : Row7) (G : Nat) (pg : Option Nat) (T : Rows10) : Prop where
 blk : w.heap[D]? = some (.cells #[.map (some P), .pointer (some ⟨M, 0, none⟩), .pointer (some ⟨G, 0, none⟩)] 84 (0, 0))
 acc : Acc11At w P A
 idx : Idx9 w M p q L LM
 grp : Grp10 w G pg T
 sep1 : ∀ i, fpM11 M p q i → i ≠ P
 sep2 : ∀ i, fpG11 G pg T i → i ≠ P
 sep3 : ∀ i, fpM11 M p q i → fpG11 G pg T i → False

def Keeps11 (W w' : World) : Prop := ∀ (k : Nat) (c : Array Value) (T : TypeId) (fr : Nat × Nat), W.heap[k]? = some (.cells c T fr) → T ≠ 84 → T ≠ 140 → T ≠ 143 → w'.heap[k]? = some (.cells c T fr)
theorem Keeps11.of_below {W w' : World} (hb : Below W.heap.size W w') : Keeps11 W w' := fun k _ _ _ h _ _ _ => (hb.block k (Array.getElem?_eq_some_iff.1 h).1).trans h
theorem Keeps11.trans {a b c : World} (h : Keeps11 a b) (k : Keeps11 b c) : Keeps11 a c := fun i x T fr hi h1 h2 h3 => k i x T fr (h i x T fr hi h1 h2 h3) h1 h2 h3
theorem Keeps11.refl (w : World) : Keeps11 w w := fun _ _ _ _ h _ _ _ => h

section
variable {w w' : World} {D P M G : Nat} {A A' : Acc11} {p q pg : Option Nat} {L LM L' : Row7} {T : Rows10}
theorem Nwr11.lt (h : Nwr11 w D P A M p q L LM G pg T) : D < w.heap.size := (Array.getElem?_eq_some_iff.1 h.blk).1
theorem cells_ne11 {b c : Nat} {x y : Array Value} {X Y : TypeId} {f g : Nat × Nat} (hb : w.heap[b]? = some (.cells x X f)) (hc : w.heap[c]? = some (.cells y Y g)) (hne : X ≠ Y) : b ≠ c := fun e => by
 subst e; rw [hb] at hc; injection hc with hc; injection hc with _ h; exact hne h
theorem acc_ne11 {c : Array Value} {X : TypeId} {fr : Nat × Nat} {B : Nat} (h : Acc11At w P A) (hB : w.heap[B]? = some (.cells c X fr)) : P ≠ B := map_ne_cells10 h hB
theorem fpM_cells (h : Idx9 w M p q L LM) {B : Nat} {c : Array Value} {X : TypeId} {fr : Nat × Nat} (hB : w.heap[B]? = some (.cells c X fr)) (hX : X ≠ 140) : ¬ fpM11 M p q B := by
 rintro (e | e | e)
 ·
  exact cells_ne11 hB h.blk hX e
 ·
  exact map_ne_cells (h.mapp.map B e) hB rfl
 ·
  exact map_ne_cells (h.mapq.map B e) hB rfl
theorem fpG_cells (h : Grp10 w G pg T) {B : Nat} {c : Array Value} {X : TypeId} {fr : Nat × Nat} (hB : w.heap[B]? = some (.cells c X fr)) (hX : X ≠ 143) : ¬ fpG11 G pg T B := by
 rintro (e | e | ⟨x, hx, e⟩)
 ·
  exact cells_ne11 hB h.blk hX e
 ·
  exact map_ne_cells10 (h.map B e) hB rfl
 ·
  subst e; exact map_ne_cells10 (h.sets x hx) hB rfl
theorem fpM_lt (h : Idx9 w M p q L LM) {i : Nat} (hi : fpM11 M p q i) : i < w.heap.size := by
 rcases hi with rfl | e | e
 ·
  exact h.lt
 ·
  exact h.plt i e
 ·
  exact h.qlt i e
theorem fpG_lt (h : Grp10 w G pg T) {i : Nat} (hi : fpG11 G pg T i) : i < w.heap.size := by
 rcases hi with rfl | e | ⟨x, hx, rfl⟩
 ·
  exact h.lt
 ·
  exact h.mlt i e
 ·
  exact h.slt x hx
theorem Idx9.turnsF {F : Nat → Prop} (h : Idx9 w M p q L LM) (ht : Turns F w w') (hn : ∀ i, fpM11 M p q i → ¬ F i) : Idx9 w' M p q L LM :=
 h.turns ht (hn M (.inl rfl)) (fun b e => hn b (.inr (.inl e))) (fun b e => hn b (.inr (.inr e)))
theorem Grp10.turnsF {F : Nat → Prop} (h : Grp10 w G pg T) (ht : Turns F w w') (hn : ∀ i, fpG11 G pg T i → ¬ F i) : Grp10 w' G pg T :=
 h.turns ht (hn G (.inl rfl)) (fun b e => hn b (.inr (.inl e))) (fun x hx => hn _ (.inr (.inr ⟨x, hx, rfl⟩)))
theorem Nwr11.later (h : Nwr11 w D P A M p q L LM G pg T) (hb : Below w.heap.size w w') : Nwr11 w' D P A M p q L LM G pg T :=
 ⟨(hb.block D h.lt).trans h.blk, h.acc.kept (hb.block P h.acc.lt), h.idx.later hb, h.grp.later hb, h.sep1, h.sep2, h.sep3⟩
theorem Nwr11.accs (h : Nwr11 w D P A M p q L LM G pg T) (ha : Acc11At w' P A') (ht : Turns (fun i => i = P) w w') : Nwr11 w' D P A' M p q L LM G pg T :=
 ⟨(ht.block D h.lt (fun e => acc_ne11 h.acc h.blk e.symm)).trans h.blk, ha, h.idx.turnsF ht h.sep1, h.grp.turnsF ht h.sep2, h.sep1, h.sep2, h.sep3⟩
theorem keeps_accs (h : Nwr11 w D P A M p q L LM G pg T) (ht : Turns (fun i => i = P) w w') : Keeps11 w w' := fun k _ _ _ hk _ _ _ =>
 (ht.block k (Array.getElem?_eq_some_iff.1 hk).1 (fun e => acc_ne11 h.acc hk e.symm)).trans hk
theorem Nwr11.mails (h : Nwr11 w D P A M p q L LM G pg T) (hg : Goes9 w M p q L' w') : ∃ p' q' LM', Nwr11 w' D P A M p' q' L' LM' G pg T ∧ ∀ i, fpM11 M p' q' i → fpM11 M p q i ∨ w.heap.size ≤ i := by
 obtain ⟨p', q', M', hi, hp, hq, ht⟩ := hg
 have hf : ∀ i, fpM11 M p' q' i → fpM11 M p q i ∨ w.heap.size ≤ i := by
  rintro i (rfl | e | e)
  ·
   exact .inl (.inl rfl)
  ·
   exact (hp i e).imp (fun h => .inr (.inl h)) id
  ·
   exact (hq i e).imp (fun h => .inr (.inr h)) id
 have ht' : Turns (fpM11 M p q) w w' := ht
 refine ⟨p', q', M', ⟨(ht'.block D h.lt (fpM_cells h.idx h.blk (by decide))).trans h.blk, h.acc.kept (ht'.block P h.acc.lt (fun f => h.sep1 P f rfl)), hi, h.grp.turnsF ht' (fun i g f => h.sep3 i f g), fun i f => ?_, h.sep2, fun i f g => ?_⟩, hf⟩
 ·
  rcases hf i f with f | f
  ·
   exact h.sep1 i f
  ·
   have := h.acc.lt; omega
 ·
  rcases hf i f with f | f
  ·
   exact h.sep3 i f g
  ·
   have := fpG_lt h.grp g; omega
theorem keeps_mails (h : Nwr11 w D P A M p q L LM G pg T) (hg : Goes9 w M p q L' w') : Keeps11 w w' := by
 obtain ⟨_, _, _, _, _, _, ht⟩ := hg
 exact fun k c X fr hk _ h2 _ => (Turns.block ht k (Array.getElem?_eq_some_iff.1 hk).1 (fpM_cells h.idx hk h2)).trans hk
theorem Nwr11.grps (h : Nwr11 w D P A M p q L LM G pg T) {S' : Grs10} (hg : Goes10 w G pg T S' w') : ∃ pg' T', Nwr11 w' D P A M p q L LM G pg' T' ∧ plain10 T' = S' ∧ ∀ i, fpG11 G pg' T' i → fpG11 G pg T i ∨ w.heap.size ≤ i := by
 obtain ⟨p', T', hi, hS, hp, hx, ht⟩ := hg
 have hf : ∀ i, fpG11 G p' T' i → fpG11 G pg T i ∨ w.heap.size ≤ i := by
  rintro i (rfl | e | ⟨x, hxx, rfl⟩)
  ·
   exact .inl (.inl rfl)
  ·
   exact (hp i e).imp (fun h => .inr (.inl h)) id
  ·
   rcases hx x hxx with ⟨y, hy, e⟩ | h
   ·
    exact .inl (.inr (.inr ⟨y, hy, e⟩))
   ·
    exact .inr h
 have ht' : Turns (fpG11 G pg T) w w' := ht
 refine ⟨p', T', ⟨(ht'.block D h.lt (fpG_cells h.grp h.blk (by decide))).trans h.blk, h.acc.kept (ht'.block P h.acc.lt (fun f => h.sep2 P f rfl)), h.idx.turnsF ht' (fun i f g => h.sep3 i f g), hi, h.sep1, fun i f => ?_, fun i f g => ?_⟩, hS, hf⟩
 ·
  rcases hf i f with f | f
  ·
   exact h.sep2 i f
  ·
   have := h.acc.lt; omega
 ·
  rcases hf i g with g | g
  ·
   exact h.sep3 i f g
  ·
   have := fpM_lt h.idx f; omega
theorem keeps_grps (h : Nwr11 w D P A M p q L LM G pg T) {S' : Grs10} (hg : Goes10 w G pg T S' w') : Keeps11 w w' := by
 obtain ⟨_, _, _, _, _, _, ht⟩ := hg
 exact fun k c X fr hk _ _ h3 => (Turns.block ht k (Array.getElem?_eq_some_iff.1 hk).1 (fpG_cells h.grp hk h3)).trans hk
end

def Own11 (w0 W : World) (D P M G : Nat) (A : Acc11) (L : Row7) (S : Grs10) : Prop :=
 ∃ p q LM pg T, Nwr11 W D P A M p q L LM G pg T ∧ plain10 T = S ∧ (∀ i, i = D ∨ i = P ∨ fpM11 M p q i ∨ fpG11 G pg T i → w0.heap.size ≤ i) ∧ Below w0.heap.size w0 W
def Goes11 (w0 W : World) (D P M G : Nat) (A : Acc11) (L : Row7) (S : Grs10) (w' : World) : Prop := Own11 w0 w' D P M G A L S ∧ Keeps11 W w'
section
variable {w0 W W' : World} {D P M G : Nat} {A A' : Acc11} {L L' : Row7} {S S' : Grs10}
theorem Own11.below (h : Own11 w0 W D P M G A L S) : Below w0.heap.size w0 W := by obtain ⟨_, _, _, _, _, _, _, _, h⟩ := h; exact h
theorem Own11.later (h : Own11 w0 W D P M G A L S) (hb : Below W.heap.size W W') : Own11 w0 W' D P M G A L S := by
 obtain ⟨p, q, LM, pg, T, hd, hS, h2, h3⟩ := h
 exact ⟨p, q, LM, pg, T, hd.later hb, hS, h2, below_next h3 hb⟩
theorem Own11.still (h : Own11 w0 W D P M G A L S) (hb : Below W.heap.size W W') : Goes11 w0 W D P M G A L S W' := ⟨h.later hb, Keeps11.of_below hb⟩
theorem Goes11.ahead {W1 : World} (hb : Below W.heap.size W W1) (h : Goes11 w0 W1 D P M G A L S W') : Goes11 w0 W D P M G A L S W' := ⟨h.1, (Keeps11.of_below hb).trans h.2⟩
theorem Goes11.next {W1 : World} {A1 : Acc11} {L1 : Row7} {S1 : Grs10} (h1 : Goes11 w0 W D P M G A1 L1 S1 W1) (h : Goes11 w0 W1 D P M G A L S W') : Goes11 w0 W D P M G A L S W' := ⟨h.1, h1.2.trans h.2⟩
theorem Own11.c0 (h : Own11 w0 W D P M G A L S) : W.cell? ⟨D, 0, none⟩ = some (.map (some P)) := by
 obtain ⟨p, q, LM, pg, T, hd, _⟩ := h
 simp [World.cell?, hd.blk]
theorem Own11.c1 (h : Own11 w0 W D P M G A L S) : W.cell? ⟨D, 1, none⟩ = some (.pointer (some ⟨M, 0, none⟩)) := by
 obtain ⟨p, q, LM, pg, T, hd, _⟩ := h
 simp [World.cell?, hd.blk]
theorem Own11.c2 (h : Own11 w0 W D P M G A L S) : W.cell? ⟨D, 2, none⟩ = some (.pointer (some ⟨G, 0, none⟩)) := by
 obtain ⟨p, q, LM, pg, T, hd, _⟩ := h
 simp [World.cell?, hd.blk]
theorem Own11.look (h : Own11 w0 W D P M G A L S) (s : ByteArray) (hs : s.size ≤ 9223372036854775807) :
  (Instr.lookup 78 (.map (some P)) (.string s) true).run Tryz.prog W = .ok (.tuple #[av11 A s.data.toList, .bool (hasV A s.data.toList)]) W := by
 obtain ⟨p, q, LM, pg, T, hd, _⟩ := h
 exact lookA11 hd.acc s (Nat.le_trans hs (by decide))
theorem Own11.look1 (h : Own11 w0 W D P M G A L S) (s : ByteArray) (hs : s.size ≤ 9223372036854775807) :
  (Instr.lookup 78 (.map (some P)) (.string s) false).run Tryz.prog W = .ok (av11 A s.data.toList) W := by
 obtain ⟨p, q, LM, pg, T, hd, _⟩ := h
 exact lookA111 hd.acc s (Nat.le_trans hs (by decide))
theorem Own11.accs (h : Own11 w0 W D P M G A L S) (ha : Acc11At W' P A') (ht : W.mapTurned W' P) : Goes11 w0 W D P M G A' L S W' := by
 obtain ⟨p, q, LM, pg, T, hd, hS, h2, h3⟩ := h
 have ht' : Turns (fun i => i = P) W W' := (Turns.refl _ W).grown ht.grown (fun k hk _ => by cases hk; rfl)
 exact ⟨⟨p, q, LM, pg, T, hd.accs ha ht', hS, h2, h3.trans (Turns.below_at ht' h3.size (fun i e => h2 i (.inr (.inl e))))⟩, keeps_accs hd ht'⟩
theorem Own11.store (h : Own11 w0 W D P M G A L S) (hf : A.length ≤ 1000) (s v : ByteArray) (b : Bool) (hs : s.size ≤ 9223372036854775807) :
  ∃ w', (Instr.mapUpdate 78 (.map (some P)) (.string s) (.agg #[.string v, .bool b])).run Tryz.prog W = .ok () w' ∧ Goes11 w0 W D P M G (putV A s.data.toList (v.data.toList, b)) L S w' := by
 have h' := h
 obtain ⟨p, q, LM, pg, T, hd, _⟩ := h'
 obtain ⟨w', hrun, ha, ht⟩ := storeA11 hd.acc hf s v b (Nat.le_trans hs (by decide))
 exact ⟨w', hrun, h.accs ha ht⟩
theorem Own11.drop (h : Own11 w0 W D P M G A L S) (s : ByteArray) (hs : s.size ≤ 9223372036854775807) (ty : TypeId) :
  ∃ w', (Builtin.delete_ #[78, 9] ty #[.map (some P), .string s]).run Tryz.prog W = .ok (.tuple #[]) w' ∧ Goes11 w0 W D P M G (delV A s.data.toList) L S w' := by
 have h' := h
 obtain ⟨p, q, LM, pg, T, hd, _⟩ := h'
 obtain ⟨w', hrun, ha, ht⟩ := dropA11 hd.acc s (Nat.le_trans hs (by decide)) ty
 exact ⟨w', hrun, h.accs ha ht⟩
/-! ### of the addresses -/
theorem Own11.mset (h : Own11 w0 W D P M G A L S) (n m : ByteArray) (hn : n.size ≤ 9223372036854775807) (hm : m.size ≤ 9223372036854775807) (hl : L.length < 100) (h5 : Len5 W) :
  Calls Tryz.prog 179 #[.pointer (some ⟨M, 0, none⟩), .string n, .string m] W fun e w' => e = .returned (.int .i64 (seE9 L n.data.toList m.data.toList)) ∧ Goes11 w0 W D P M G A (seL9 L n.data.toList m.data.toList) S w' := by
 obtain ⟨p, q, LM, pg, T, hd, hS, h2, h3⟩ := h
 refine (set9_calls M p q L LM n m W hd.idx hn hm hl h5).mono fun e w' ⟨he, hg⟩ => ⟨he, ?_, keeps_mails hd hg⟩
 obtain ⟨p', q', LM', hd', hf⟩ := hd.mails hg
 obtain ⟨_, _, _, _, _, _, ht⟩ := hg
 refine ⟨p', q', LM', pg, T, hd', hS, fun i hi => ?_, h3.trans (Turns.below_at ht h3.size (fun i e => h2 i (.inr (.inr (.inl e)))))⟩
 rcases hi with e | e | e | e
 ·
  exact h2 i (.inl e)
 ·
  exact h2 i (.inr (.inl e))
 ·
  rcases hf i e with e | e
  ·
   exact h2 i (.inr (.inr (.inl e)))
  ·
   exact Nat.le_trans h3.size e
 ·
  exact h2 i (.inr (.inr (.inr e)))
theorem Own11.mof (h : Own11 w0 W D P M G A L S) (n : ByteArray) (hn : n.size ≤ 9223372036854775807) :
  Calls Tryz.prog 140 #[.pointer (some ⟨M, 0, none⟩), .string n] W fun e w' => e = .returned (.tuple #[.string (tx7 (getE L n.data.toList)), .bool (hasE L n.data.toList)]) ∧ w' = W := by
 obtain ⟨p, q, LM, pg, T, hd, _⟩ := h
 exact of9_calls M p q L LM n W hd.idx (Nat.le_trans hn (by decide))
/-! ### of the groups -/
theorem Own11.goesG (h : Own11 w0 W D P M G A L S) {p q : Option Nat} {LM : Row7} {pg : Option Nat} {T : Rows10} (hd : Nwr11 W D P A M p q L LM G pg T) (h2 : ∀ i, i = D ∨ i = P ∨ fpM11 M p q i ∨ fpG11 G pg T i → w0.heap.size ≤ i) (hg : Goes10 W G pg T S' W') : Goes11 w0 W D P M G A L S' W' := by
 have h3 := h.below
 refine ⟨?_, keeps_grps hd hg⟩
 obtain ⟨pg', T', hd', hS, hf⟩ := hd.grps hg
 obtain ⟨_, _, _, _, _, _, ht⟩ := hg
 refine ⟨p, q, LM, pg', T', hd', hS, fun i hi => ?_, h3.trans (Turns.below_at ht h3.size (fun i e => h2 i (.inr (.inr (.inr e)))))⟩
 rcases hi with e | e | e | e
 ·
  exact h2 i (.inl e)
 ·
  exact h2 i (.inr (.inl e))
 ·
  exact h2 i (.inr (.inr (.inl e)))
 ·
  rcases hf i e with e | e
  ·
   exact h2 i (.inr (.inr (.inr e)))
  ·
   exact Nat.le_trans h3.size e
theorem few11 {T : Rows10} {k : Nat} (hg : Good10 (plain10 T) k) : T.length ≤ 6 := by have := hg.few; rwa [plain10_len] at this
theorem little11 {T : Rows10} {k : Nat} (hg : Good10 (plain10 T) k) (hk : k ≤ 900) : ∀ x ∈ T, x.2.2.length ≤ 1000 := fun x hx => by
 have := hg.little (x.1, x.2.2) (List.mem_map.2 ⟨x, hx, rfl⟩)
 exact Nat.le_trans this (by omega)
variable {k : Nat}
theorem Own11.gmake (h : Own11 w0 W D P M G A L S) (hk : Good10 S k) (g : ByteArray) (hg : g.size ≤ 9223372036854775807) :
  Calls Tryz.prog 87 #[.pointer (some ⟨G, 0, none⟩), .string g] W fun e w' => e = .returned (.int .i64 (maE10 S g.data.toList)) ∧ Goes11 w0 W D P M G A L (maS10 S g.data.toList) w' := by
 have h' := h
 obtain ⟨p, q, LM, pg, T, hd, rfl, h2, h3⟩ := h'
 exact (make10_calls G pg T g W hd.grp (few11 hk) hg).mono fun e w' ⟨he, hgo⟩ => ⟨he, h.goesG hd h2 hgo⟩
theorem Own11.gjoin (h : Own11 w0 W D P M G A L S) (hk : Good10 S k) (h9 : k ≤ 900) (g n : ByteArray) (hg : g.size ≤ 9223372036854775807) (hn : n.size ≤ 9223372036854775807) :
  Calls Tryz.prog 131 #[.pointer (some ⟨G, 0, none⟩), .string g, .string n] W fun e w' => e = .returned (.int .i64 (joE10 S g.data.toList n.data.toList)) ∧ Goes11 w0 W D P M G A L (joS10 S g.data.toList n.data.toList) w' := by
 have h' := h
 obtain ⟨p, q, LM, pg, T, hd, rfl, h2, h3⟩ := h'
 exact (join10_calls G pg T g n W hd.grp (little11 hk h9) hg hn).mono fun e w' ⟨he, hgo⟩ => ⟨he, h.goesG hd h2 hgo⟩
theorem Own11.gof (h : Own11 w0 W D P M G A L S) (hk : Good10 S k) (n : ByteArray) (hn : n.size ≤ 9223372036854775807) :
  Calls Tryz.prog 141 #[.pointer (some ⟨G, 0, none⟩), .string n] W (Names10 (of10 S n.data.toList) W) := by
 obtain ⟨p, q, LM, pg, T, hd, rfl, h2, h3⟩ := h
 have hf := few11 hk
 exact of10_calls G pg T n W hd.grp (by omega) hn
theorem Own11.gall (h : Own11 w0 W D P M G A L S) (hk : Good10 S k) : Calls Tryz.prog 136 #[.pointer (some ⟨G, 0, none⟩)] W (Names10 (names10 S) W) := by
 obtain ⟨p, q, LM, pg, T, hd, rfl, h2, h3⟩ := h
 have hf := few11 hk
 exact all10_calls G pg T W hd.grp (by omega)
end
end Go.Proofs.YtmcomnocpibiiaaGreatDoor
namespace Go.Proofs.YtmcomnocpibiiaaGreatDoor
open Go.RowKit Go.Maps

set_option maxRecDepth 100000 in
theorem first11_calls (B n cap : Nat) (es : List Int) (w : World) (hl : n = es.length) (hn : n ≤ 1000) (hc : ∀ j (h : j < es.length), w.cell? ⟨B, j, none⟩ = some (.int .i64 es[j])) :
  Calls Tryz.prog 64 #[.slice (some ⟨B, 0, none⟩) n cap] w fun e w' => e = .returned (.int .i64 (first6 es)) ∧ w' = w := by
 have HC := Lib.hid hc
 have HL := Lib.hid hl
 clear hc hl
 generalize hr : first6 es = r
 have HR := Lib.hid hr
 clear hr
 go_enter Tryz.func64, Tryz.ntmps64
 go_wp2
 go_loopg [4, 7] n (fun gg _ s7 wr => ∃ k : Nat, k ≤ n ∧ n - k ≤ gg ∧ s7 = .int .i64 k ∧ wr = w ∧ Hid (first6 (es.drop k) = r))
 case atStart => exact ⟨0, Nat.zero_le _, by omega, rfl, rfl, HR⟩
 case round =>
  obtain ⟨k, hk, hg, rfl, rfl, A⟩ := hrel
  by_cases hlt : k < n
  ·
   have hltz : (k : Int) < (n : Int) := by omega
   have hkl : k < es.length := HL.out ▸ hlt
   have hcell := HC.out k hkl
   have hA : (if es[k] = 0 then first6 (es.drop (k + 1)) else es[k]) = r := by
    have := A.out
    rw [List.drop_eq_getElem_cons hkl] at this
    exact this
   generalize es[k] = x at *
   by_cases h0 : x = 0
   ·
    rw [if_pos h0] at hA
    have HA := Lib.hid hA
    clear hA A
    subst h0
    go_wp2
    go_roundg (n - (k + 1))
    case measure => omega
    case rel => exact ⟨k + 1, by omega, by omega, by go_num, rfl, HA⟩
   ·
    rw [if_neg h0] at hA
    subst hA
    clear A
    go_wp2
    go_ret
    exact ⟨rfl, rfl⟩
  ·
   have hltz : ¬ (k : Int) < (n : Int) := by omega
   have hA : (0 : Int) = r := by
    have := A.out
    rw [List.drop_eq_nil_of_le (by have := HL.out; omega)] at this
    exact this
   subst hA
   clear A
   go_wp2
   go_ret
   exact ⟨rfl, rfl⟩

set_option maxRecDepth 100000 in
theorem unless11_calls (b : Bool) (n : Int) (w : World) : Calls Tryz.prog 138 #[.bool b, .int .i64 n] w fun e w' => e = .returned (.int .i64 (err5 b n)) ∧ w' = w := by
 cases b with
 | true =>
  show Calls _ _ _ _ fun e w' => e = .returned (.int .i64 0) ∧ w' = w
  go_enter Tryz.func138, Tryz.ntmps138
  go_wp2
  go_ret
  exact ⟨rfl, rfl⟩
 | false =>
  show Calls _ _ _ _ fun e w' => e = .returned (.int .i64 n) ∧ w' = w
  go_enter Tryz.func138, Tryz.ntmps138
  go_wp2
  go_ret
  exact ⟨rfl, rfl⟩


theorem Errs6.first11 {W : World} {v : Value} {es : List Int} (h : Errs6 W v es) (hn : es.length ≤ 1000) : Calls Tryz.prog 64 #[v] W fun e w' => e = .returned (.int .i64 (first6 es)) ∧ w' = W := by
 obtain ⟨G, rfl, _, hc⟩ := h
 exact first11_calls G es.length es.length es W rfl hn hc
theorem firsts11 (W : World) (es : List Int) (t : TypeId) (hn : es.length ≤ 1000) : Calls Tryz.prog 64 #[.slice (some ⟨W.heap.size, 0, none⟩) es.length es.length] (W.alloc (.cells (es.map (Value.int .i64)).toArray t)) fun e w' => e = .returned (.int .i64 (first6 es)) ∧ w' = W.alloc (.cells (es.map (Value.int .i64)).toArray t) :=
 (errs6_new W es t).first11 hn
set_option maxRecDepth 100000 in
theorem fit11_calls (many most : Int) (w : World) : Calls Tryz.prog 85 #[.int .i64 many, .int .i64 most] w fun e w' => e = .returned (.int .i64 (err5 (decide (many ≤ most)) 7)) ∧ w' = w := by
 have HU : Hid (∀ b W, Calls Tryz.prog 138 #[.bool b, .int .i64 7] W fun e w' => e = .returned (.int .i64 (err5 b 7)) ∧ w' = W) := fun b W => unless11_calls b 7 W
 by_cases h : many ≤ most
 ·
  have hd : decide (many ≤ most) = true := decide_eq_true h
  rw [hd]
  go_enter Tryz.func85, Tryz.ntmps85
  go_wp2_with fail
  with_reducible refine (HU.out _ _).mono ?_
  rintro e w' ⟨rfl, rfl⟩
  go_wp2
  go_ret
  exact ⟨rfl, rfl⟩
 ·
  have hd : decide (many ≤ most) = false := decide_eq_false h
  rw [hd]
  go_enter Tryz.func85, Tryz.ntmps85
  go_wp2_with fail
  with_reducible refine (HU.out _ _).mono ?_
  rintro e w' ⟨rfl, rfl⟩
  go_wp2
  go_ret
  exact ⟨rfl, rfl⟩

section
variable {w0 w : World} {D P M G : Nat} {A : Acc11} {L : Row7} {S : Grs10}
variable {k : Nat}
set_option maxRecDepth 100000 in
theorem ngroups11_calls (h : Own11 w0 w D P M G A L S) (hk : Good10 S k) : Calls Tryz.prog 63 #[.pointer (some ⟨D, 0, none⟩)] w (Names10 (names10 S) w) := by
 have c2 := h.c2
 have HF := Lib.hid (h.gall hk)
 clear h hk
 generalize names10 S = s at *
 go_enter Tryz.func63, Tryz.ntmps63
 go_wp2_with fail
 with_reducible refine HF.out.mono ?_
 rintro e w1 ⟨v, rfl, hr⟩
 have HR := Lib.hid hr
 clear hr HF c2
 go_wp2
 go_ret
 exact ⟨v, rfl, HR.out⟩
end
end Go.Proofs.YtmcomnocpibiiaaGreatDoor
namespace Go.Proofs.YtmcomnocpibiiaaGreatDoor
open Go.RowKit Go.Maps

def Ac11 (W : World) (b : Nat) (s : ByteArray) (d : Bool) : Prop := W.heap[b]? = some (.cells #[.string s, .bool d] 109 (0, 0))
section
variable {W W' : World} {b : Nat} {s : ByteArray} {d : Bool}
theorem Ac11.c0 (h : Ac11 W b s d) : W.cell? ⟨b, 0, none⟩ = some (.string s) := by simp [World.cell?, show W.heap[b]? = _ from h]
theorem Ac11.c1 (h : Ac11 W b s d) : W.cell? ⟨b, 1, none⟩ = some (.bool d) := by simp [World.cell?, show W.heap[b]? = _ from h]
theorem Ac11.f0 (h : Ac11 W b s d) : W.frozen? ⟨b, 0, none⟩ = false := by simp [World.frozen?, show W.heap[b]? = _ from h]
theorem Ac11.f1 (h : Ac11 W b s d) : W.frozen? ⟨b, 1, none⟩ = false := by simp [World.frozen?, show W.heap[b]? = _ from h]
theorem Ac11.lt (h : Ac11 W b s d) : b < W.heap.size := (Array.getElem?_eq_some_iff.1 h).1
theorem Ac11.later (h : Ac11 W b s d) (hb : Below W.heap.size W W') : Ac11 W' b s d := (hb.block b h.lt).trans h
theorem ac11_new (W : World) (s : ByteArray) (d : Bool) : Ac11 (W.alloc (.cells #[.string s, .bool d] 109)) W.heap.size s d := (MapKept.heap_alloc W _).1
theorem Ac11.set0 (h : Ac11 W b s d) (x : ByteArray) : Ac11 (W.setCell ⟨b, 0, none⟩ (.string x)) b x d := by
 have h' : W.heap[b]? = some (.cells #[.string s, .bool d] 109 (0, 0)) := h
 have hl := h.lt
 have := h'
 rw [Array.getElem?_eq_getElem hl] at this
 injection this with this
 show (W.setCell ⟨b, 0, none⟩ (.string x)).heap[b]? = _
 simp [World.setCell, hl, Array.getElem_modify, this]
theorem Ac11.set1 (h : Ac11 W b s d) (x : Bool) : Ac11 (W.setCell ⟨b, 1, none⟩ (.bool x)) b s x := by
 have h' : W.heap[b]? = some (.cells #[.string s, .bool d] 109 (0, 0)) := h
 have hl := h.lt
 have := h'
 rw [Array.getElem?_eq_getElem hl] at this
 injection this with this
 show (W.setCell ⟨b, 1, none⟩ (.bool x)).heap[b]? = _
 simp [World.setCell, hl, Array.getElem_modify, this]
end

def YPt11 (D P : Nat) (n h : ByteArray) (d : Bool) : Nat → Value → Prop
 | 3, v => v = .map (some P)
 | 4, v => v = .string n
 | 5, v => v = .string n
 | 6, v => v = .agg #[.string h, .bool d]
 | _, v => v = .pointer (some ⟨D, 0, none⟩)
def YPtW11 (D P : Nat) (n h : ByteArray) (d : Bool) (j : Nat) (v : Value) (_ : World) : Prop := YPt11 D P n h d j v
section
variable {w0 w : World} {D P M G : Nat} {A : Acc11} {L : Row7} {S : Grs10}
set_option maxRecDepth 100000 in
set_option maxHeartbeats 1000000 in
theorem put11_calls (n h : ByteArray) (d : Bool) (ho : Own11 w0 w D P M G A L S) (hf : A.length ≤ 1000) (hn : n.size ≤ 1000) (hh : h.size ≤ 1000) :
  Calls Tryz.prog 94 #[.pointer (some ⟨D, 0, none⟩), .string n, .agg #[.string h, .bool d]] w fun e w' => e = .returned (.tuple #[]) ∧ Goes11 w0 w D P M G (putV A n.data.toList (h.data.toList, d)) L S w' := by
 have HC : Hid (∀ W, Calls Tryz.prog 115 #[.string n] W fun e w' => e = .returned (.string n) ∧ Below W.heap.size W w') := fun W => sclone10_calls n W hn
 have HC1 : Hid (∀ W, Calls Tryz.prog 115 #[.string h] W fun e w' => e = .returned (.string h) ∧ Below W.heap.size W w') := fun W => sclone10_calls h W hh
 have HO := Lib.hid ho
 have HST : Hid (∀ W, Below w.heap.size w W → ∃ w', (Instr.mapUpdate 78 (.map (some P)) (.string n) (.agg #[.string h, .bool d])).run Tryz.prog W = .ok () w' ∧ Goes11 w0 w D P M G (putV A n.data.toList (h.data.toList, d)) L S w') := fun W hb => by
  obtain ⟨w', h1, h2⟩ := (ho.later hb).store hf n h d (Nat.le_trans hn (by decide))
  exact ⟨w', h1, h2.ahead hb⟩
 have HA := Lib.hid (ac11_new w h d)
 have HB0 : Hid (Below w.heap.size w (w.alloc (.cells #[.string h, .bool d] 109))) := below_alloc (Below.refl _ _) _
 clear ho hf hn hh
 go_enter Tryz.func94, Tryz.ntmps94
 go_wp2_with fail
 with_reducible refine (HC1.out _).mono ?_
 rintro e w1 ⟨rfl, hb⟩
 have ha := HA.out.later hb
 have f0 := ha.f0
 have c0 := ha.c0
 have HA1 := Lib.hid (ha.set0 h)
 have HB1 : Hid (Below w.heap.size w (w1.setCell ⟨w.heap.size, 0, none⟩ (.string h))) := (below_next HB0.out hb).setCell (p := ⟨w.heap.size, 0, none⟩) (Nat.le_refl _) _
 clear hb HA HB0 HC1 ha
 go_wp2_with fail
 generalize w1.setCell ⟨w.heap.size, 0, none⟩ (.string h) = w2 at *
 generalize w.heap.size = B5 at HA1
 clear f0 c0
 refine wp_region_last (by kernel_rfl) 7 (fun W => Below w2.heap.size w2 W) (fun W => Goes11 w0 w D P M G (putV A n.data.toList (h.data.toList, d)) L S W) (YPtW11 D P n h d) (fun _ => True) ?F ?hF (by kernel_rfl) (by kernel_rfl) (by kernel_rfl) (by kernel_rfl) (by decide) (below_drew (Below.refl _ _)) ?step ?fin
 case hF =>
  intro x
  simp only [List.map_cons, List.map_nil, putL, Act.put, List.setIfInBounds_toArray, List.set_cons_zero, List.set_cons_succ, Nat.zero_add, Nat.reduceAdd]
  exact rfl
 case step =>
  refine ⟨?_, ?_, ?_, ?_, ?_, ?_, ?_, ?_, trivial⟩
  ·
   intro x W
   refine ⟨fun _ hW hdep K hK => ?_, (fun h => absurd h (by decide)), (fun h => absurd h (by decide))⟩
   clear hdep
   go_simp
   exact hK _ _ rfl hW (fun _ _ h => h)
  ·
   intro x W
   refine ⟨fun _ hW hdep K hK => ?_, (fun h => absurd h (by decide)), (fun h => absurd h (by decide))⟩
   have h0 : x 0 = _ := hdep 0 rfl
   clear hdep
   simp only [h0] at hK
   go_simp
   exact hK _ _ rfl hW (fun _ _ h => h)
  ·
   intro x W
   refine ⟨fun _ hW hdep K hK => ?_, (fun h => absurd h (by decide)), (fun h => absurd h (by decide))⟩
   have h1 : x 1 = _ := hdep 1 rfl
   clear hdep
   simp only [h1] at hK
   go_simp
   exact hK _ _ rfl hW (fun _ _ h => h)
  ·
   intro x W
   refine ⟨fun _ hW hdep K hK => ?_, (fun h => absurd h (by decide)), (fun h => absurd h (by decide))⟩
   have h2 : x 2 = _ := hdep 2 rfl
   have c := (HO.out.later (below_next HB1.out hW)).c0
   clear hdep
   simp only [h2] at hK
   go_simp
   exact hK _ _ rfl hW (fun _ _ h => h)
  ·
   intro x W
   refine ⟨fun _ hW hdep K hK => ?_, (fun h => absurd h (by decide)), (fun h => absurd h (by decide))⟩
   clear hdep
   go_simp
   exact hK _ _ rfl hW (fun _ _ h => h)
  ·
   intro x W
   refine ⟨fun _ hW hdep K hK => ?_, (fun h => absurd h (by decide)), (fun h => absurd h (by decide))⟩
   have h4 : x 4 = _ := hdep 4 rfl
   have hc := HC.out W
   clear hdep
   simp only [h4] at hK
   go_simp
   refine hc.mono ?_
   rintro e W' ⟨rfl, hb⟩
   exact hK _ _ rfl (below_next hW hb) (fun _ _ h => h)
  ·
   intro x W
   refine ⟨fun _ hW hdep K hK => ?_, (fun h => absurd h (by decide)), (fun h => absurd h (by decide))⟩
   have hx := HA1.out.later hW
   have c0 := hx.c0
   have c1 := hx.c1
   clear hdep
   go_simp
   exact hK _ _ rfl hW (fun _ _ h => h)
  ·
   intro x W
   refine ⟨(fun h => absurd h (by decide)), fun _ hW hdep K hK => ?_, (fun h => absurd h (by decide))⟩
   have h3 : x 3 = _ := hdep 3 rfl
   have h5 : x 5 = _ := hdep 5 rfl
   have h6 : x 6 = _ := hdep 6 rfl
   obtain ⟨w', hrun, hg⟩ := HST.out W (below_next HB1.out hW)
   clear hdep
   simp only [h3, h5, h6] at hK
   go_simp
   exact hK undef _ trivial hg
 case fin =>
  intro x W hW _
  have HF := Lib.hid hW
  clear hW HST HC HA1 HB1 HO
  go_end0
  exact ⟨rfl, HF.out⟩

def YPm11 (D M : Nat) (n m : ByteArray) : Nat → Value → Prop
 | 2, v => v = .pointer (some ⟨D, 1, none⟩)
 | 3, v => v = .pointer (some ⟨M, 0, none⟩)
 | 4, v => v = .string n
 | 5, v => v = .string n
 | 6, v => v = .string m
 | _, v => v = .pointer (some ⟨D, 0, none⟩)
def YPmW11 (D M : Nat) (n m : ByteArray) (j : Nat) (v : Value) (_ : World) : Prop := YPm11 D M n m j v
set_option maxRecDepth 100000 in
set_option maxHeartbeats 1000000 in
theorem putMail11_calls (n m : ByteArray) (ho : Own11 w0 w D P M G A L S) (hl : L.length < 100) (h5 : Len5 w) (hn : n.size ≤ 1000) (hm : m.size ≤ 9223372036854775807) :
  Calls Tryz.prog 113 #[.pointer (some ⟨D, 0, none⟩), .string n, .string m] w fun e w' => e = .returned (.int .i64 (seE9 L n.data.toList m.data.toList)) ∧ Goes11 w0 w D P M G A (seL9 L n.data.toList m.data.toList) S w' := by
 have HC : Hid (∀ W, Calls Tryz.prog 115 #[.string n] W fun e w' => e = .returned (.string n) ∧ Below W.heap.size W w') := fun W => sclone10_calls n W hn
 have HO := Lib.hid ho
 have HST : Hid (∀ W, Below w.heap.size w W → Calls Tryz.prog 179 #[.pointer (some ⟨M, 0, none⟩), .string n, .string m] W fun e w' => e = .returned (.int .i64 (seE9 L n.data.toList m.data.toList)) ∧ Goes11 w0 w D P M G A (seL9 L n.data.toList m.data.toList) S w') := fun W hb =>
  ((ho.later hb).mset n m (Nat.le_trans hn (by decide)) hm hl (h5.later hb)).mono fun e w' ⟨he, hg⟩ => ⟨he, hg.ahead hb⟩
 clear ho hl hn hm h5
 generalize seE9 L n.data.toList m.data.toList = r at *
 generalize seL9 L n.data.toList m.data.toList = L' at *
 go_enter Tryz.func113, Tryz.ntmps113
 go_wp2_with fail
 refine wp_region_last (by kernel_rfl) 7 (fun W => Below w.heap.size w W) (fun W => Goes11 w0 w D P M G A L' S W) (YPmW11 D M n m) (fun v => v = .int .i64 r) ?F ?hF (by kernel_rfl) (by kernel_rfl) (by kernel_rfl) (by kernel_rfl) (by decide) (below_drew (Below.refl _ _)) ?step ?fin
 case hF =>
  intro x
  simp only [List.map_cons, List.map_nil, putL, Act.put, List.setIfInBounds_toArray, List.set_cons_zero, List.set_cons_succ, Nat.zero_add, Nat.reduceAdd]
  exact rfl
 case step =>
  refine ⟨?_, ?_, ?_, ?_, ?_, ?_, ?_, ?_, ?_, trivial⟩
  ·
   intro x W
   refine ⟨fun _ hW hdep K hK => ?_, (fun h => absurd h (by decide)), (fun h => absurd h (by decide))⟩
   clear hdep
   go_simp
   exact hK _ _ rfl hW (fun _ _ h => h)
  ·
   intro x W
   refine ⟨fun _ hW hdep K hK => ?_, (fun h => absurd h (by decide)), (fun h => absurd h (by decide))⟩
   have h0 : x 0 = _ := hdep 0 rfl
   clear hdep
   simp only [h0] at hK
   go_simp
   exact hK _ _ rfl hW (fun _ _ h => h)
  ·
   intro x W
   refine ⟨fun _ hW hdep K hK => ?_, (fun h => absurd h (by decide)), (fun h => absurd h (by decide))⟩
   have h1 : x 1 = _ := hdep 1 rfl
   clear hdep
   simp only [h1] at hK
   go_simp
   exact hK _ _ rfl hW (fun _ _ h => h)
  ·
   intro x W
   refine ⟨fun _ hW hdep K hK => ?_, (fun h => absurd h (by decide)), (fun h => absurd h (by decide))⟩
   have h2 : x 2 = _ := hdep 2 rfl
   have c := (HO.out.later hW).c1
   clear hdep
   simp only [h2] at hK
   go_simp
   exact hK _ _ rfl hW (fun _ _ h => h)
  ·
   intro x W
   refine ⟨fun _ hW hdep K hK => ?_, (fun h => absurd h (by decide)), (fun h => absurd h (by decide))⟩
   clear hdep
   go_simp
   exact hK _ _ rfl hW (fun _ _ h => h)
  ·
   intro x W
   refine ⟨fun _ hW hdep K hK => ?_, (fun h => absurd h (by decide)), (fun h => absurd h (by decide))⟩
   have h4 : x 4 = _ := hdep 4 rfl
   have hc := HC.out W
   clear hdep
   simp only [h4] at hK
   go_simp
   refine hc.mono ?_
   rintro e W' ⟨rfl, hb⟩
   exact hK _ _ rfl (below_next hW hb) (fun _ _ h => h)
  ·
   intro x W
   refine ⟨fun _ hW hdep K hK => ?_, (fun h => absurd h (by decide)), (fun h => absurd h (by decide))⟩
   clear hdep
   go_simp
   exact hK _ _ rfl hW (fun _ _ h => h)
  ·
   intro x W
   refine ⟨(fun h => absurd h (by decide)), fun _ hW hdep K hK => ?_, (fun h => absurd h (by decide))⟩
   have h3 : x 3 = _ := hdep 3 rfl
   have h5 : x 5 = _ := hdep 5 rfl
   have h6 : x 6 = _ := hdep 6 rfl
   have hc := HST.out W hW
   clear hdep
   simp only [h3, h5, h6] at hK
   go_simp
   refine hc.mono ?_
   rintro e W' ⟨rfl, hg⟩
   exact hK _ _ rfl hg
  ·
   intro x W
   refine ⟨(fun h => absurd h (by decide)), (fun h => absurd h (by decide)), fun _ hW hdep K hK => ?_⟩
   have h7 : x 7 = _ := hdep 7 rfl (by decide)
   clear hdep
   simp only [h7] at hK
   go_simp
   exact hK _ rfl
 case fin =>
  intro x W hW hZ
  have h8 : x 8 = .int .i64 r := hZ 8 (by decide) (by decide)
  have HF := Lib.hid hW
  clear hW hZ HST HC HO
  rw [h8]
  go_wp2
  go_ret
  exact ⟨rfl, HF.out⟩
end
end Go.Proofs.YtmcomnocpibiiaaGreatDoor
namespace Go.Proofs.YtmcomnocpibiiaaGreatDoor
open Go.RowKit Go.Maps

theorem name11_size {n : ByteArray} (h : name5 n.data.toList = true) : n.size ≤ 1000 := name10_size h
theorem hash11_len {l : List UInt8} (h : hash5 l = true) : l.length ≤ 1000 := by
 unfold hash5 at h
 simp only [Bool.and_eq_true, decide_eq_true_eq] at h
 have := h.1.2
 omega
theorem hash11_size {n : ByteArray} (h : hash5 n.data.toList = true) : n.size ≤ 1000 := by
 have := hash11_len h
 rwa [size_list] at this
section
variable {w0 w : World} {D P M G : Nat} {A : Acc11} {L : Row7} {S : Grs10} {k : Nat}
theorem sm11_eq (n m : List UInt8) : (name5 n = true ∧ isM11 m = true ∧ hasV A n = true → smE11 A L n m = seE9 L n m ∧ smL11 A L n m = seL9 L n m) ∧ (¬ (name5 n = true ∧ isM11 m = true ∧ hasV A n = true) → smE11 A L n m = (if name5 n then (if isM11 m then (if hasV A n then 0 else 8) else 11) else 10) ∧ smL11 A L n m = L) := by
 constructor
 ·
  rintro ⟨h1, h2, h3⟩
  have h4 : seE9 L n m = 0 ∨ seE9 L n m = 9 := by
   unfold seE9
   rw [if_pos h1]
   by_cases hm : m = []
   ·
    rw [if_pos hm]; exact .inl rfl
   ·
    have h5 : mail5 m = true := by unfold isM11 at h2; rw [decide_eq_false hm, Bool.false_or] at h2; exact h2
    rw [if_neg hm, if_pos h5]
    cases bad9 L n (fold5 m)
    ·
     exact .inl rfl
    ·
     exact .inr rfl
  have e1 : smE11 A L n m = seE9 L n m := by
   unfold smE11 smF11
   rw [h1, h2, h3]
   rcases h4 with h | h <;> rw [h] <;> rfl
  refine ⟨e1, ?_⟩
  unfold smL11
  rw [e1]
  by_cases h : seE9 L n m = 0
  ·
   rw [if_pos h]
  ·
   rw [if_neg h]; unfold seL9; rw [if_neg h]
 ·
  intro hq
  have e1 : smE11 A L n m = (if name5 n then (if isM11 m then (if hasV A n then 0 else 8) else 11) else 10) := by
   unfold smE11 smF11
   revert hq
   cases name5 n <;> cases isM11 m <;> cases hasV A n <;> simp
  refine ⟨e1, ?_⟩
  unfold smL11
  rw [e1, if_neg]
  revert hq
  cases name5 n <;> cases isM11 m <;> cases hasV A n <;> simp
end
end Go.Proofs.YtmcomnocpibiiaaGreatDoor
namespace Go.Proofs.YtmcomnocpibiiaaGreatDoor
open Go.RowKit Go.Maps Go.Sort Go.Shelf

theorem datV_keys11 {V : Type} (e : V → DataW Unit) (L : RowV V) : strKeys (datV e L) = names10 L := by
 simp only [datV, strKeys, List.map_map]; rfl
section
variable {w0 w : World} {D P M G : Nat} {A : Acc11} {L : Row7} {S : Grs10} {k : Nat}
set_option maxRecDepth 100000 in
set_option maxHeartbeats 1000000 in
theorem nnames11_calls (ho : Own11 w0 w D P M G A L S) (hr : RiseV A) (hf : A.length ≤ 12) : Calls Tryz.prog 76 #[.pointer (some ⟨D, 0, none⟩)] w (Names10 (names10 A) w) := by
 have eg : ∀ args w, (callFunc 198 args).run Tryz.prog w = .ok (.enter 198 args) w := enters_of Tryz.func198 (by kernel_rfl) rfl
 have bl : Below w.heap.size w (w.alloc (.cells #[.map (some P)] 78)) := below_alloc (Below.refl _ _) _
 have cS : ∃ S : List (List UInt8) → Prop, (∀ ss, S ss → ss.Perm (names10 A)) ∧ SeqGives Fence.wide 2 Tryz.prog 198 #[.pointer (some ⟨w.heap.size, 0, none⟩)] encStr S A.length (w.alloc (.cells #[.map (some P)] 78)) := by
  have ho' := ho
  obtain ⟨p, q, LM, pg, T, hd, _⟩ := ho'
  have hown := World.ownsMap.alloc hd.acc (.cells #[.map (some P)] 78)
  have h := AnyZ.keys_gives (ρ := Tryz.keys11_ren) { Tryz.keys11 with } Fence.wide 2 trivial rfl (by omega) w.heap.size P _ (datV ea11 A) _ (by simp) (by simp) hown
  rw [datV_size] at h
  exact ⟨_, fun ss h => by rw [datV_keys11] at h; exact h, h⟩
 obtain ⟨Ss, hS, hseq⟩ := cS
 have HK : Hid (Calls Tryz.prog 150 #[.map (some P)] w fun e w' => e = .returned (.func (.func 198) #[] #[.pointer (some ⟨w.heap.size, 0, none⟩)]) ∧ w' = w.alloc (.cells #[.map (some P)] 78)) :=
  (callsIn_wide (n := 4)).1 (AnyZ.keys_in Tryz.keys11 Fence.wide 4 trivial rfl (some P) w)
 have HSF := Lib.hid (sortedf7_calls _ _ Ss A.length _ eg (by omega) (fun ss h => by rw [(hS ss h).length_eq, names10_length]; omega) hseq)
 have HSS : Hid (∀ ss, Ss ss → ss.length = A.length ∧ ss.mergeSort (fun x y => !(ltOf Lib.compareBytes) y x) = names10 A) := fun ss h => by
  have hp := hS ss h
  exact ⟨by rw [hp.length_eq, names10_length], sort_rise hr.names hp _ (fun x y => by rw [lt7])⟩
 have hc := ho.c0
 have BL := Lib.hid bl
 clear hseq hS ho bl
 go_enter Tryz.func76, Tryz.ntmps76
 go_wp2_with fail
 with_reducible refine HK.out.mono ?_
 rintro e w1 ⟨rfl, rfl⟩
 go_wp2_with fail
 with_reducible refine HSF.out.mono ?_
 rintro e w2 ⟨v, ss, rfl, hss, hrow, hnil, hb⟩
 obtain ⟨hl, hm⟩ := HSS.out ss hss
 have HF : Hid (Names10 (names10 A) w (.returned v) w2) := by
  rw [hl, hm] at hrow
  refine ⟨v, rfl, ?_, below_next BL.out hb⟩
  rw [names10_length]
  exact ownsRow_low10 hrow (by simp)
 clear hss hrow hnil hb hl hm HSS HSF HK hc BL
 go_wp2
 go_ret
 exact HF.out

theorem zerou11 (w : World) : (zeroValue 37).run Tryz.prog w = .ok (.agg #[.string ⟨#[]⟩, .string ⟨#[]⟩, .string ⟨#[]⟩, .bool false, .slice none 0 0]) w := by kernel_rfl
def Told11 (A : Acc11) (L : Row7) (S : Grs10) (n : ByteArray) (w W : World) (v : Value) : Prop :=
 ∃ ga gc, v = .agg #[.string n, .string (tx10 (hasA A n.data.toList)), .string (tx10 (getE L n.data.toList)), .bool (disA A n.data.toList), .slice ga (of10 S n.data.toList).length gc] ∧ W.ownsRow w.heap.size 9 1 (.slice ga (of10 S n.data.toList).length gc) (of10 S n.data.toList).length ((of10 S n.data.toList).map encStr)
def Tld11 (b : Nat) (n s m : ByteArray) (d : Bool) (gs : List (List UInt8)) (w W : World) : Prop :=
 ∃ ga gc, Blk5 W b (.string n) (.string s) (.string m) (.bool d) (.slice ga gs.length gc) ∧ W.ownsRow w.heap.size 9 1 (.slice ga gs.length gc) gs.length (gs.map encStr) ∧ Below w.heap.size w W
def YTl11 (D G b5 : Nat) (n s m : ByteArray) (d : Bool) (gs : List (List UInt8)) (w : World) : Nat → Value → World → Prop
 | 0, v, _ => v = .string n
 | 1, v, _ => v = .pointer (some ⟨b5, 0, none⟩)
 | 2, v, _ => v = .string s
 | 3, v, _ => v = .string m
 | 4, v, _ => v = .pointer (some ⟨b5, 1, none⟩)
 | 5, v, _ => v = .bool d
 | 8, v, _ => v = .pointer (some ⟨D, 2, none⟩)
 | 9, v, _ => v = .pointer (some ⟨G, 0, none⟩)
 | 10, v, _ => v = .string n
 | 11, v, W => ∃ ga gc, v = .slice ga gs.length gc ∧ W.ownsRow w.heap.size 9 1 (.slice ga gs.length gc) gs.length (gs.map encStr)
 | 12, v, W => ∃ ga gc, v = .agg #[.string n, .string s, .string m, .bool d, .slice ga gs.length gc] ∧ W.ownsRow w.heap.size 9 1 (.slice ga gs.length gc) gs.length (gs.map encStr)
 | _, v, _ => v = .pointer (some ⟨D, 0, none⟩)
theorem ownsRow_below11 {w w' : World} {b : Nat} {e size n : Nat} {v : Value} {xs : List Value} (h : w.ownsRow b e size v n xs) (hb : Below w.heap.size w w') : w'.ownsRow b e size v n xs := by
 refine ⟨h.1, ?_⟩
 rcases h.2 with hn | ⟨g, cap, cur, e1, h0, hg, hr⟩
 ·
  exact .inl hn
 ·
  exact .inr ⟨g, cap, cur, e1, h0, (hb.block g (Array.getElem?_eq_some_iff.1 hg).1).trans hg, hr⟩
theorem YTl11_keep {D G b5 : Nat} {n s m : ByteArray} {d : Bool} {gs : List (List UInt8)} {w W W' : World} (hb : Below W.heap.size W W') (j : Nat) (u : Value) (h : YTl11 D G b5 n s m d gs w j u W) : YTl11 D G b5 n s m d gs w j u W' := by
 match j, h with
 | 0, h => exact h
 | 1, h => exact h
 | 2, h => exact h
 | 3, h => exact h
 | 4, h => exact h
 | 5, h => exact h
 | 6, h => exact h
 | 7, h => exact h
 | 8, h => exact h
 | 9, h => exact h
 | 10, h => exact h
 | 11, h =>
  obtain ⟨ga, gc, e, hr⟩ := h
  exact ⟨ga, gc, e, ownsRow_below11 hr hb⟩
 | 12, h =>
  obtain ⟨ga, gc, e, hr⟩ := h
  exact ⟨ga, gc, e, ownsRow_below11 hr hb⟩
 | _ + 13, h => exact h
set_option maxRecDepth 100000 in
set_option maxHeartbeats 2000000 in
theorem tell11_calls (n : ByteArray) (ho : Own11 w0 w D P M G A L S) (hk : Good10 S k) (hn : n.size ≤ 9223372036854775807) :
  Calls Tryz.prog 67 #[.pointer (some ⟨D, 0, none⟩), .string n] w fun e w' => ∃ v, e = .returned v ∧ Told11 A L S n w w' v ∧ Below w.heap.size w w' := by
 have HO := Lib.hid ho
 have hz := zeroa11
 have hzu := zerou11
 have HLK : Hid (∀ W, Below w.heap.size w W → (Instr.lookup 78 (.map (some P)) (.string n) false).run Tryz.prog W = .ok (.agg #[.string (tx10 (hasA A n.data.toList)), .bool (disA A n.data.toList)]) W) := fun W hb => (ho.later hb).look1 n hn
 have HOF : Hid (∀ W, Below w.heap.size w W → Calls Tryz.prog 140 #[.pointer (some ⟨M, 0, none⟩), .string n] W fun e w' => e = .returned (.tuple #[.string (tx10 (getE L n.data.toList)), .bool (hasE L n.data.toList)]) ∧ w' = W) := fun W hb => (ho.later hb).mof n hn
 have HGO : Hid (∀ W, Below w.heap.size w W → Calls Tryz.prog 141 #[.pointer (some ⟨G, 0, none⟩), .string n] W (Names10 (of10 S n.data.toList) W)) := fun W hb => (ho.later hb).gof hk n hn
 unfold Told11
 clear ho hk hn
 generalize tx10 (hasA A n.data.toList) = ss at *
 generalize disA A n.data.toList = dd at *
 generalize tx10 (getE L n.data.toList) = mm at *
 generalize hasE L n.data.toList = hm at *
 generalize of10 S n.data.toList = gs at *
 have hb1 : Below w.heap.size w (w.alloc (.cells #[.string ⟨#[]⟩, .string ⟨#[]⟩, .string ⟨#[]⟩, .bool false, .slice none 0 0] 37)) := below_alloc (Below.refl _ _) _
 have hb2 : Below w.heap.size w ((w.alloc (.cells #[.string ⟨#[]⟩, .string ⟨#[]⟩, .string ⟨#[]⟩, .bool false, .slice none 0 0] 37)).alloc (.cells #[.string ss, .bool dd] 109)) := below_alloc hb1 _
 have hz1 : Blk5 (w.alloc (.cells #[.string ⟨#[]⟩, .string ⟨#[]⟩, .string ⟨#[]⟩, .bool false, .slice none 0 0] 37)) w.heap.size (.string ⟨#[]⟩) (.string ⟨#[]⟩) (.string ⟨#[]⟩) (.bool false) (.slice none 0 0) := heap_alloc_new w _
 have HZ : Hid (Blk5 ((w.alloc (.cells #[.string ⟨#[]⟩, .string ⟨#[]⟩, .string ⟨#[]⟩, .bool false, .slice none 0 0] 37)).alloc (.cells #[.string ss, .bool dd] 109)) w.heap.size (.string ⟨#[]⟩) (.string ⟨#[]⟩) (.string ⟨#[]⟩) (.bool false) (.slice none 0 0)) := (Below.heap_alloc _ _ _ (by simp)).trans hz1
 have HA := Lib.hid (ac11_new (w.alloc (.cells #[.string ⟨#[]⟩, .string ⟨#[]⟩, .string ⟨#[]⟩, .bool false, .slice none 0 0] 37)) ss dd)
 have c0 := (HO.out.later hb1).c0
 have c1 := (HO.out.later hb2).c1
 have hl := HLK.out _ hb1
 have HOF1 := Lib.hid (HOF.out _ hb2)
 have HB2 := Lib.hid hb2
 clear hb1 hb2 hz1 HOF
 go_enter Tryz.func67, Tryz.ntmps67
 go_wp2_with fail
 with_reducible refine HOF1.out.mono ?_
 rintro e w2 ⟨rfl, hw2⟩
 rw [← hw2] at HZ HA HB2
 have hsz : (w.alloc (.cells #[.string ⟨#[]⟩, .string ⟨#[]⟩, .string ⟨#[]⟩, .bool false, .slice none 0 0] 37)).heap.size = w.heap.size + 1 := by simp
 rw [hsz] at HA
 have HLT := Lib.hid (HA.out.lt)
 clear hw2 hl HOF1 c0 c1 HLK hsz
 go_wp2_with fail
 have HLT2 : Hid (w.heap.size < w2.heap.size) := by have := HLT.out; show _ < _; omega
 have HSO : Hid (∀ W, Below w2.heap.size w2 W → ∀ ga gc, W.ownsRow w.heap.size 9 1 (.slice ga gs.length gc) gs.length (gs.map encStr) → Tld11 w.heap.size n ss mm dd gs w (set5 W w.heap.size (.string n) (.string ss) (.string mm) (.bool dd) (.slice ga gs.length gc))) := fun W hb ga gc ho => by
  have hz : Blk5 W w.heap.size (.string ⟨#[]⟩) (.string ⟨#[]⟩) (.string ⟨#[]⟩) (.bool false) (.slice none 0 0) := (hb.block _ HLT2.out).trans HZ.out
  have ht : Turns (fun i => i = w.heap.size) W (set5 W w.heap.size (.string n) (.string ss) (.string mm) (.bool dd) (.slice ga gs.length gc)) := turns_set5 (Turns.refl (fun i => i = w.heap.size) W) w.heap.size (fun _ => rfl) _ _ _ _ _
  have hbw := below_next HB2.out hb
  refine ⟨ga, gc, hz.set5 _ _ _ _ _, ?_, hbw.trans (ht.below_at hbw.size (fun i e => by omega))⟩
  refine ⟨ho.1, ?_⟩
  rcases ho.2 with hn | ⟨g, cap, cur, e1, h0, hg, hr⟩
  ·
   exact .inl hn
  ·
   have hne : g ≠ w.heap.size := fun e => by
    subst e
    rw [show W.heap[w.heap.size]? = _ from hz] at hg
    injection hg with hg
    injection hg with _ h
    exact absurd h (by decide)
   exact .inr ⟨g, cap, cur, e1, h0, (ht.block g (Array.getElem?_eq_some_iff.1 hg).1 hne).trans hg, hr⟩
 refine wp_region_last (by kernel_rfl) 13 (fun W => Below w2.heap.size w2 W) (fun W => Tld11 w.heap.size n ss mm dd gs w W) (YTl11 D G (w.heap.size + 1) n ss mm dd gs w) (fun _ => True) ?F ?hF (by kernel_rfl) (by kernel_rfl) (by kernel_rfl) (by kernel_rfl) (by decide) (below_drew (Below.refl _ _)) ?step ?fin
 case hF =>
  intro x
  simp only [List.map_cons, List.map_nil, putL, Act.put, List.setIfInBounds_toArray, List.set_cons_zero, List.set_cons_succ, Nat.zero_add, Nat.reduceAdd]
  exact rfl
 case step =>
  refine ⟨?_, ?_, ?_, ?_, ?_, ?_, ?_, ?_, ?_, ?_, ?_, ?_, ?_, ?_, trivial⟩
  ·
   intro x W
   refine ⟨fun _ hW hdep K hK => ?_, (fun h => absurd h (by decide)), (fun h => absurd h (by decide))⟩
   clear hdep
   go_simp
   exact hK _ _ rfl hW (fun _ _ h => h)
  ·
   intro x W
   refine ⟨fun _ hW hdep K hK => ?_, (fun h => absurd h (by decide)), (fun h => absurd h (by decide))⟩
   clear hdep
   go_simp
   exact hK _ _ rfl hW (fun _ _ h => h)
  ·
   intro x W
   refine ⟨fun _ hW hdep K hK => ?_, (fun h => absurd h (by decide)), (fun h => absurd h (by decide))⟩
   have h1 : x 1 = _ := hdep 1 rfl
   have hx := HA.out.later hW
   have c0 := hx.c0
   clear hdep
   simp only [h1] at hK
   go_simp
   exact hK _ _ rfl hW (fun _ _ h => h)
  ·
   intro x W
   refine ⟨fun _ hW hdep K hK => ?_, (fun h => absurd h (by decide)), (fun h => absurd h (by decide))⟩
   clear hdep
   go_simp
   exact hK _ _ rfl hW (fun _ _ h => h)
  ·
   intro x W
   refine ⟨fun _ hW hdep K hK => ?_, (fun h => absurd h (by decide)), (fun h => absurd h (by decide))⟩
   clear hdep
   go_simp
   exact hK _ _ rfl hW (fun _ _ h => h)
  ·
   intro x W
   refine ⟨fun _ hW hdep K hK => ?_, (fun h => absurd h (by decide)), (fun h => absurd h (by decide))⟩
   have h4 : x 4 = _ := hdep 4 rfl
   have hx := HA.out.later hW
   have c1 := hx.c1
   clear hdep
   simp only [h4] at hK
   go_simp
   exact hK _ _ rfl hW (fun _ _ h => h)
  ·
   intro x W
   refine ⟨fun _ hW hdep K hK => ?_, (fun h => absurd h (by decide)), (fun h => absurd h (by decide))⟩
   clear hdep
   go_simp
   exact hK _ _ rfl hW (fun _ _ h => h)
  ·
   intro x W
   refine ⟨fun _ hW hdep K hK => ?_, (fun h => absurd h (by decide)), (fun h => absurd h (by decide))⟩
   have h6 : x 6 = _ := hdep 6 rfl
   clear hdep
   simp only [h6] at hK
   go_simp
   exact hK _ _ rfl hW (fun _ _ h => h)
  ·
   intro x W
   refine ⟨fun _ hW hdep K hK => ?_, (fun h => absurd h (by decide)), (fun h => absurd h (by decide))⟩
   have h7 : x 7 = _ := hdep 7 rfl
   clear hdep
   simp only [h7] at hK
   go_simp
   exact hK _ _ rfl hW (fun _ _ h => h)
  ·
   intro x W
   refine ⟨fun _ hW hdep K hK => ?_, (fun h => absurd h (by decide)), (fun h => absurd h (by decide))⟩
   have h8 : x 8 = _ := hdep 8 rfl
   have c := (HO.out.later (below_next HB2.out hW)).c2
   clear hdep
   simp only [h8] at hK
   go_simp
   exact hK _ _ rfl hW (fun _ _ h => h)
  ·
   intro x W
   refine ⟨fun _ hW hdep K hK => ?_, (fun h => absurd h (by decide)), (fun h => absurd h (by decide))⟩
   clear hdep
   go_simp
   exact hK _ _ rfl hW (fun _ _ h => h)
  ·
   intro x W
   refine ⟨fun _ hW hdep K hK => ?_, (fun h => absurd h (by decide)), (fun h => absurd h (by decide))⟩
   have h9 : x 9 = _ := hdep 9 rfl
   have h10 : x 10 = _ := hdep 10 rfl
   have hc := HGO.out W (below_next HB2.out hW)
   clear hdep
   simp only [h9, h10] at hK
   go_simp
   refine hc.mono ?_
   rintro e W' ⟨v, rfl, hr, hb⟩
   obtain ⟨ga, gc, rfl⟩ := row10_shape hr
   exact hK _ _ ⟨ga, gc, rfl, ownsRow_low10 hr (below_next HB2.out hW).size⟩ (below_next hW hb) (fun j u h => YTl11_keep hb j u h)
  ·
   intro x W
   refine ⟨fun _ hW hdep K hK => ?_, (fun h => absurd h (by decide)), (fun h => absurd h (by decide))⟩
   have h0 : x 0 = _ := hdep 0 rfl
   have h2 : x 2 = _ := hdep 2 rfl
   have h3 : x 3 = _ := hdep 3 rfl
   have h5 : x 5 = _ := hdep 5 rfl
   have hA : ∃ ga gc, x 11 = .slice ga gs.length gc ∧ W.ownsRow w.heap.size 9 1 (.slice ga gs.length gc) gs.length (gs.map encStr) := hdep 11 rfl
   obtain ⟨ga, gc, h11, hr⟩ := hA
   simp only [h11] at hK
   clear hdep
   simp only [h0, h2, h3, h5] at hK
   go_simp
   exact hK _ _ ⟨ga, gc, rfl, hr⟩ hW (fun _ _ h => h)
  ·
   intro x W
   refine ⟨(fun h => absurd h (by decide)), fun _ hW hdep K hK => ?_, (fun h => absurd h (by decide))⟩
   have hA : ∃ ga gc, x 12 = .agg #[.string n, .string ss, .string mm, .bool dd, .slice ga gs.length gc] ∧ W.ownsRow w.heap.size 9 1 (.slice ga gs.length gc) gs.length (gs.map encStr) := hdep 12 rfl
   obtain ⟨ga, gc, h12, hr⟩ := hA
   simp only [h12] at hK
   have hz : Blk5 W w.heap.size (.string ⟨#[]⟩) (.string ⟨#[]⟩) (.string ⟨#[]⟩) (.bool false) (.slice none 0 0) := (hW.block _ HLT2.out).trans HZ.out
   have f1 := hz.free
   have q0 := HSO.out W hW ga gc hr
   have r0 : _ = some (.string ⟨#[]⟩ : Value) := hz.at_ 0
   have r1 : _ = some (.string ⟨#[]⟩ : Value) := hz.at_ 1
   have r2 : _ = some (.string ⟨#[]⟩ : Value) := hz.at_ 2
   have r3 : _ = some (.bool false : Value) := hz.at_ 3
   have r4 : _ = some (.slice none 0 0 : Value) := hz.at_ 4
   clear hz
   clear hdep
   go_simp
   exact hK undef _ trivial q0
 case fin =>
  intro x W hW _
  obtain ⟨ga, gc, hz, hr, hb⟩ := hW
  have HR := Lib.hid hr
  have HBB := Lib.hid hb
  have q0 : _ = some (.string n : Value) := hz.at_ 0
  have q1 : _ = some (.string ss : Value) := hz.at_ 1
  have q2 : _ = some (.string mm : Value) := hz.at_ 2
  have q3 : _ = some (.bool dd : Value) := hz.at_ 3
  have q4 : _ = some (.slice ga gs.length gc : Value) := hz.at_ 4
  clear hr hb hz HSO HZ HA HB2 HGO HO HLT HLT2
  go_wp2_with fail
  refine bodyPost_ret (v := .agg #[.string n, .string ss, .string mm, .bool dd, .slice ga gs.length gc]) ?_ rfl ⟨_, rfl, ⟨ga, gc, rfl, HR.out⟩, HBB.out⟩
  simp [results, Tryz.results67, go_sem, q0, q1, q2, q3, q4]
end

set_option maxRecDepth 100000 in
theorem nnew11_calls (w : World) : Calls Tryz.prog 13 #[] w fun e w' => ∃ D P M G, e = .returned (.pointer (some ⟨D, 0, none⟩)) ∧ Own11 w w' D P M G [] [] [] := by
 have HM : Hid (∀ W, Calls Tryz.prog 43 #[] W fun e w' => e = .returned (.pointer (some ⟨W.heap.size, 0, none⟩)) ∧ w' = W.alloc (.cells #[.map none, .map none] 140)) := fun W => new9_calls W
 have HG : Hid (∀ W, Calls Tryz.prog 44 #[] W fun e w' => e = .returned (.pointer (some ⟨W.heap.size, 0, none⟩)) ∧ w' = W.alloc (.cells #[.map none] 143)) := fun W => new10_calls W
 have hmm := @run_makeMap Tryz.prog
 have a1 := accs11_made w
 have hb1 := below_alloc (Below.refl w.heap.size w) (.map #[] 0)
 have s1 : (w.alloc (.map #[] 0)).heap.size = w.heap.size + 1 := by simp
 generalize hw1 : w.alloc (.map #[] 0) = w1 at *
 have a2 := idx9_new w1
 have hb2 := below_alloc (Below.refl w1.heap.size w1) (.cells #[.map none, .map none] 140)
 have s2 : (w1.alloc (.cells #[.map none, .map none] 140)).heap.size = w1.heap.size + 1 := by simp
 generalize hw2 : w1.alloc (.cells #[.map none, .map none] 140) = w2 at *
 have a3 := grp10_new w2
 have hb3 := below_alloc (Below.refl w2.heap.size w2) (.cells #[.map none] 143)
 have s3 : (w2.alloc (.cells #[.map none] 143)).heap.size = w2.heap.size + 1 := by simp
 generalize hw3 : w2.alloc (.cells #[.map none] 143) = w3 at *
 have hb4 := below_alloc (Below.refl w3.heap.size w3) (.cells #[.map (some w.heap.size), .pointer (some ⟨w1.heap.size, 0, none⟩), .pointer (some ⟨w2.heap.size, 0, none⟩)] 84)
 have a4 := heap_alloc_new w3 (.cells #[.map (some w.heap.size), .pointer (some ⟨w1.heap.size, 0, none⟩), .pointer (some ⟨w2.heap.size, 0, none⟩)] 84)
 have HF : Hid (Own11 w (w3.alloc (.cells #[.map (some w.heap.size), .pointer (some ⟨w1.heap.size, 0, none⟩), .pointer (some ⟨w2.heap.size, 0, none⟩)] 84)) w3.heap.size w.heap.size w1.heap.size w2.heap.size [] [] []) := by
  have hb24 := below_next (below_next hb2 hb3) hb4
  have hb34 := below_next hb3 hb4
  refine ⟨none, none, [], none, [], ⟨a4, a1.kept (hb24.block _ (by omega)), a2.later hb34, a3.later hb4, ?_, ?_, ?_⟩, rfl, ?_, below_next (below_next (below_next hb1 hb2) hb3) hb4⟩
  ·
   rintro i (rfl | h | h)
   ·
    omega
   ·
    cases h
   ·
    cases h
  ·
   rintro i (rfl | h | ⟨x, h, _⟩)
   ·
    omega
   ·
    cases h
   ·
    cases h
  ·
   rintro i (rfl | h | h) (h' | h' | ⟨x, h', _⟩)
   ·
    omega
   all_goals first | cases h | cases h'
  ·
   rintro i (rfl | rfl | h | h)
   ·
    omega
   ·
    omega
   ·
    rcases h with rfl | h | h
    ·
     omega
    ·
     cases h
    ·
     cases h
   ·
    rcases h with rfl | h | ⟨x, h, _⟩
    ·
     omega
    ·
     cases h
    ·
     cases h
 clear a1 a2 a3 a4 hb1 hb2 hb3 hb4 s1 s2 s3
 go_enter Tryz.func13, Tryz.ntmps13
 go_wp2_with fail
 with_reducible refine (HM.out _).mono ?_
 rintro e u2 ⟨rfl, hu2⟩
 go_wp2_with fail
 with_reducible refine (HG.out _).mono ?_
 rintro e u3 ⟨rfl, hu3⟩
 try rw [hw1] at hu2
 try rw [hw2] at hu2
 try subst hu2
 try rw [hw3] at hu3
 subst hu3
 clear HM HG hmm hw1 hw2 hw3
 go_wp2
 go_ret
 exact ⟨_, _, _, _, rfl, HF.out⟩
end Go.Proofs.YtmcomnocpibiiaaGreatDoor
namespace Go.Proofs.YtmcomnocpibiiaaGreatDoor
open Go.RowKit Go.Maps

section
variable {w0 w : World} {D P M G : Nat} {A : Acc11} {L : Row7} {S : Grs10} {k : Nat}

theorem Told11.low {w w1 W : World} {n : ByteArray} {v : Value} (h : Told11 A L S n w1 W v) (hb : Below w.heap.size w w1) : Told11 A L S n w W v := by
 obtain ⟨ga, gc, e, hr⟩ := h
 exact ⟨ga, gc, e, ownsRow_low10 hr hb.size⟩
end
end Go.Proofs.YtmcomnocpibiiaaGreatDoor
namespace Go.Proofs.YtmcomnocpibiiaaGreatDoor
open Go.RowKit Go.Maps Go.Sort Go.Shelf

structure W11 where
 hs : ByteArray
 ml : ByteArray
 dis : Bool
 ga : Option Addr
 gs : List (List UInt8)
 gc : Nat
def W11.u (x : W11) : U11 := ⟨x.hs.data.toList, x.ml.data.toList, x.dis, x.gs⟩
def cu11 (q : List UInt8 × W11) : List Value := [.string (tx10 q.1), .string q.2.hs, .string q.2.ml, .bool q.2.dis, .slice q.2.ga q.2.gs.length q.2.gc]
theorem cu11_at (L : RowV W11) (j i : Nat) (hj : j < L.length) (hi : i < 5) : (L.flatMap cu11)[j * 5 + i]? = (cu11 L[j])[i]? := by
 induction L generalizing j with
 | nil => exact absurd hj (Nat.not_lt_zero _)
 | cons q L ih =>
  rw [List.flatMap_cons]
  cases j with
  | zero =>
   rw [List.getElem?_append_left (by simp [cu11]; omega)]
   simp
  | succ j =>
   rw [List.getElem?_append_right (by simp [cu11]; omega)]
   have := ih j (by simpa using hj)
   rw [show (j + 1) * 5 + i - (cu11 q).length = j * 5 + i by simp [cu11]; omega, this]
   simp
theorem infoUser11 : (Tryz.prog.info? 37).map (fun i => (i.zero, i.size, i.bytes)) = some (some (.agg #[.string ⟨#[]⟩, .string ⟨#[]⟩, .string ⟨#[]⟩, .bool false, .slice none 0 0]), 5, 80) := by kernel_rfl

def Us11r (w : World) (v : Value) (L : RowV W11) : Prop := ∃ A c, v = .slice A L.length c ∧ ∀ j (h : j < L.length), ∃ g, A = some ⟨g, 0, none⟩ ∧ ∀ i u, (cu11 L[j])[i]? = some u → w.cell? ⟨g, j * 5 + i, none⟩ = some u
theorem Us11r.later {w w' : World} {v : Value} {L : RowV W11} (h : Us11r w v L) (hb : Below w.heap.size w w') : Us11r w' v L := by
 obtain ⟨A, c, e, hc⟩ := h
 exact ⟨A, c, e, fun j hj => by obtain ⟨g, e, h⟩ := hc j hj; exact ⟨g, e, fun i u hu => (hb.cell (p := ⟨g, j * 5 + i, none⟩) (World.block_lt_of_cell? w _ (h i u hu))).trans (h i u hu)⟩⟩
theorem Us11r.of_users {w : World} {base : Nat} {v : Value} {L : RowV W11} (h : w.ownsRow base 37 5 v L.length (L.flatMap cu11)) : Us11r w v L := by
 have hs : ∃ A c, v = .slice A L.length c := by
  rcases h.2 with ⟨rfl, h0⟩ | ⟨g, cap, cur, rfl, _⟩
  ·
   exact ⟨none, 0, by rw [h0]⟩
  ·
   exact ⟨_, _, rfl⟩
 obtain ⟨A, c, rfl⟩ := hs
 refine ⟨A, c, rfl, fun j hj => ?_⟩
 rcases h.2 with ⟨_, h0⟩ | ⟨g, cap, cur, e1, _⟩
 ·
  omega
 ·
  injection e1 with e1
  subst e1
  refine ⟨g, rfl, fun i u hu => ?_⟩
  have hi : i < 5 := (List.getElem?_eq_some_iff.1 hu).1
  have := World.ownsRow.cells h (g := g) rfl (j * 5 + i) u (by rw [cu11_at L j i hj hi]; exact hu)
  rw [Addr.add_lit, Nat.zero_add] at this
  exact this



def Rw11 (L : RowV W11) (w : World) (v : Value) : Prop := w.ownsRow 0 37 5 v L.length (L.flatMap cu11)
theorem Rw11.us {L : RowV W11} {w : World} {v : Value} (h : Rw11 L w v) : Us11r w v L := Us11r.of_users (base := 0) h
theorem ownsRow_keeps11 {w w' : World} {b : Nat} {e size n : Nat} {v : Value} {xs : List Value} (h : w.ownsRow b e size v n xs) (hk : Keeps11 w w') (h1 : e ≠ 84) (h2 : e ≠ 140) (h3 : e ≠ 143) : w'.ownsRow b e size v n xs := by
 refine ⟨h.1, ?_⟩
 rcases h.2 with hn | ⟨g, cap, cur, e1, h0, hg, hr⟩
 ·
  exact .inl hn
 ·
  exact .inr ⟨g, cap, cur, e1, h0, hk g _ _ _ hg h1 h2 h3, hr⟩
theorem Rw11.keeps {L : RowV W11} {w w' : World} {v : Value} (h : Rw11 L w v) (hk : Keeps11 w w') : Rw11 L w' v := ownsRow_keeps11 h hk (by decide) (by decide) (by decide)
theorem Rw11.later {L : RowV W11} {w w' : World} {v : Value} (h : Rw11 L w v) (hb : Below w.heap.size w w') : Rw11 L w' v := h.keeps (Keeps11.of_below hb)
theorem Rw11.of_own {L : RowV W11} {w : World} {b : Nat} {v : Value} (h : w.ownsRow b 37 5 v L.length (L.flatMap cu11)) : Rw11 L w v := ownsRow_low10 h (Nat.zero_le _)
theorem Rw11.nil (w : World) : Rw11 [] w (.slice none 0 0) := World.ownsRow_nil _ _ _ _
theorem Us11r.at_ {w : World} {A : Option Addr} {c n : Nat} {L : RowV W11} (h : Us11r w (.slice A n c) L) (k : Nat) (hk : k < L.length) :
  ∃ g, A = some ⟨g, 0, none⟩ ∧ w.cell? ⟨g, k * 5, none⟩ = some (.string (tx10 L[k].1)) ∧ w.cell? ⟨g, k * 5 + 1, none⟩ = some (.string L[k].2.hs) ∧ w.cell? ⟨g, k * 5 + 2, none⟩ = some (.string L[k].2.ml) ∧ w.cell? ⟨g, k * 5 + 3, none⟩ = some (.bool L[k].2.dis) ∧ w.cell? ⟨g, k * 5 + 4, none⟩ = some (.slice L[k].2.ga L[k].2.gs.length L[k].2.gc) := by
 obtain ⟨A', c', e, hc⟩ := h
 injection e with e1 e2 e3
 obtain ⟨g, eg, hcell⟩ := hc k hk
 exact ⟨g, by rw [e1, eg], hcell 0 _ rfl, hcell 1 _ rfl, hcell 2 _ rfl, hcell 3 _ rfl, hcell 4 _ rfl⟩
theorem Us11r.shape {w : World} {v : Value} {L : RowV W11} (h : Us11r w v L) : ∃ A c, v = .slice A L.length c := by
 obtain ⟨A, c, e, _⟩ := h
 exact ⟨A, c, e⟩




structure UsC11 (w : World) (B : Nat) (s : ByteArray) (x : W11) (n : Nat) : Prop where
 lt : B < w.heap.size
 c0 : w.cell? ⟨B, 0, none⟩ = some (.string s)
 c1 : w.cell? ⟨B, 1, none⟩ = some (.string x.hs)
 c2 : w.cell? ⟨B, 2, none⟩ = some (.string x.ml)
 c3 : w.cell? ⟨B, 3, none⟩ = some (.bool x.dis)
 c4 : w.cell? ⟨B, 4, none⟩ = some (.slice x.ga n x.gc)
theorem UsC11.of_heap {w W : World} {B n : Nat} {s : ByteArray} {x : W11} (hx : UsC11 w B s x n) (he : W.heap[B]? = w.heap[B]?) : UsC11 W B s x n := by
 have hB := hx.lt
 have hc : ∀ i, W.cell? ⟨B, i, none⟩ = w.cell? ⟨B, i, none⟩ := fun i => World.cell?_of_block he
 refine ⟨?_, (hc 0).trans hx.c0, (hc 1).trans hx.c1, (hc 2).trans hx.c2, (hc 3).trans hx.c3, (hc 4).trans hx.c4⟩
 rw [Array.getElem?_eq_getElem hB] at he
 exact (Array.getElem?_eq_some_iff.1 he).1
theorem UsC11.below_at {w W : World} {B m : Nat} {s : ByteArray} {x : W11} (hx : UsC11 w B s x m) {n : Nat} (hn : B < n) (hb : Below n w W) : UsC11 W B s x m := hx.of_heap (hb.block B hn)





end Go.Proofs.YtmcomnocpibiiaaGreatDoor
namespace Go.Proofs.YtmcomnocpibiiaaGreatDoor
open Go.RowKit Go.Maps

theorem rows_apart11 {w : World} {b1 b2 s1 s2 n1 n2 : Nat} {e1 e2 : TypeId} {v1 v2 : Value} {xs1 xs2 : List Value} (h1 : w.ownsRow b1 e1 s1 v1 n1 xs1) (h2 : w.ownsRow b2 e2 s2 v2 n2 xs2) (he : e1 ≠ e2) : v1.ownBlock = none ∨ v1.ownBlock ≠ v2.ownBlock := by
  rcases h1.2 with ⟨rfl, _⟩ | ⟨g, cap, cur, rfl, _, hg, _⟩
  · exact .inl rfl
  · rcases h2.2 with ⟨rfl, _⟩ | ⟨g2, cap2, cur2, rfl, _, hg2, _⟩
    · exact .inr (by simp [Value.ownBlock])
    · refine .inr fun e => ?_
      have : g = g2 := by simpa [Value.ownBlock] using e
      subst this
      rw [hg] at hg2
      injection hg2 with h
      injection h with _ h
      exact he h

def Gs11 (b : Nat) (w : World) (R : RowV W11) : Prop := ∀ p ∈ R, w.ownsRow b 9 1 (.slice p.2.ga p.2.gs.length p.2.gc) p.2.gs.length (p.2.gs.map encStr)
def plainR (R : RowV W11) : Usr11 := R.map fun p => (p.1, p.2.u)
def Rc11 (b : Nat) (R : RowV W11) (w : World) (v : Value) : Prop := w.ownsRow b 37 5 v R.length (R.flatMap cu11) ∧ Gs11 b w R
section
variable {w w' : World} {b : Nat} {R : RowV W11} {v : Value}
theorem Gs11.later (h : Gs11 b w R) (hb : Below w.heap.size w w') : Gs11 b w' R := fun p hp => ownsRow_below11 (h p hp) hb
theorem Gs11.keeps (h : Gs11 b w R) (hk : Keeps11 w w') : Gs11 b w' R := fun p hp => ownsRow_keeps11 (h p hp) hk (by decide) (by decide) (by decide)
theorem Gs11.low (h : Gs11 b w R) {a : Nat} (ha : a ≤ b) : Gs11 a w R := fun p hp => ownsRow_low10 (h p hp) ha
theorem Rc11.later (h : Rc11 b R w v) (hb : Below w.heap.size w w') : Rc11 b R w' v := ⟨ownsRow_below11 h.1 hb, h.2.later hb⟩
theorem Rc11.keeps (h : Rc11 b R w v) (hk : Keeps11 w w') : Rc11 b R w' v := ⟨ownsRow_keeps11 h.1 hk (by decide) (by decide) (by decide), h.2.keeps hk⟩
theorem Rc11.low (h : Rc11 b R w v) {a : Nat} (ha : a ≤ b) : Rc11 a R w v := ⟨ownsRow_low10 h.1 ha, h.2.low ha⟩
theorem Rc11.rw (h : Rc11 b R w v) : Rw11 R w v := Rw11.of_own h.1
theorem Rc11.nil (b : Nat) (w : World) : Rc11 b [] w (.slice none 0 0) := ⟨World.ownsRow_nil _ _ _ _, (fun _ h => nomatch h)⟩
end

section
variable {w0 w : World} {D P M G : Nat} {A : Acc11} {L : Row7} {S : Grs10} {k : Nat}
set_option maxRecDepth 100000 in
set_option maxHeartbeats 2000000 in
theorem nall11_calls (ho : Own11 w0 w D P M G A L S) (hg : Good11 A L S k) : Calls Tryz.prog 29 #[.pointer (some ⟨D, 0, none⟩)] w fun e w' => ∃ v R, e = .returned v ∧ Rc11 w.heap.size R w' v ∧ plainR R = tell11 A L S ∧ Below w.heap.size w w' := by
  have HN := Lib.hid (nnames11_calls ho hg.rise hg.few)
  have HT : Hid (∀ W n, Below w.heap.size w W → n.size ≤ 9223372036854775807 → Calls Tryz.prog 67 #[.pointer (some ⟨D, 0, none⟩), .string n] W fun e w' => ∃ v, e = .returned v ∧ Told11 A L S n w w' v ∧ Below W.heap.size W w') := fun W n hb hn =>
    (tell11_calls n (ho.later hb) hg.grp hn).mono fun e w' ⟨v, he, ht, hb'⟩ => ⟨v, he, ht.low hb, hb'⟩
  have HG := Lib.hid hg
  have hfew := hg.few
  clear ho hg
  obtain ⟨i0, hi, hz0, hz1, hz2⟩ := info_parts infoUser11
  obtain ⟨n, hn⟩ : ∃ n, n = A.length := ⟨_, rfl⟩
  have HLN : Hid (A.length = n) := hn.symm
  rw [← hn] at hfew
  clear hn
  go_enter Tryz.func29, Tryz.ntmps29
  go_wp2_with fail
  with_reducible refine HN.out.mono ?_
  rintro e w1 ⟨v, rfl, hrow, hb⟩
  rw [names10_length, HLN.out] at hrow
  have hlen : (names10 A).length = n := by rw [names10_length]; exact HLN.out
  obtain ⟨AA, c, rfl⟩ : ∃ AA c, v = .slice AA n c := by
    have := row10_shape (ls := names10 A) (by rw [hlen]; exact hrow)
    rwa [hlen] at this
  have HRW := Lib.hid hrow
  have HB := Lib.hid hb
  have HLE := Lib.hid hlen
  clear hb hrow HN hlen
  go_wp2
  go_loopg [3, 5, 9] n (fun gg s3 _ s9 wr => ∃ k : Nat, k ≤ n ∧ n - k ≤ gg ∧ s9 = .int .i64 k ∧ Hid (Below w.heap.size w wr) ∧ Hid (wr.ownsRow w.heap.size 9 1 (.slice AA n c) n ((names10 A).map encStr)) ∧ ∃ R : RowV W11, R.length = k ∧ Hid (plainR R = (tell11 A L S).take k) ∧ Hid (wr.ownsRow w.heap.size 37 5 s3 k (R.flatMap cu11)) ∧ Hid (Gs11 w.heap.size wr R))
  case atStart => exact ⟨0, Nat.zero_le _, by omega, rfl, HB, HRW, [], rfl, rfl, World.ownsRow_nil _ _ _ _, (fun _ h => nomatch h)⟩
  case round =>
    obtain ⟨k, hk, hg, rfl, HW, HR2, R, hRl, HPL, HU, HGS⟩ := hrel
    by_cases hlt : k < n
    · have hltz : (k : Int) < (n : Int) := by omega
      have hkl : k < A.length := by have := HLN.out; omega
      have hr2 := HR2.out
      have hle := HLE.out
      obtain ⟨g, cx, e1, hcell⟩ := row10_at (ls := names10 A) (by rw [hle]; exact hr2) (Turns.refl (fun _ => False) wr) (fun _ _ _ _ _ _ f => f) (k := k) (by rw [hle]; exact hlt)
      injection e1 with e1 e2 e3
      subst e1
      subst e3
      clear e2
      have hnm : (names10 A)[k]'(by rw [hle]; exact hlt) = A[k].1 := by simp [names10]
      rw [hnm] at hcell
      have hna : A[k] ∈ A := List.getElem_mem hkl
      have hsz : (tx10 A[k].1).size ≤ 9223372036854775807 := by
        rw [tx10_size]
        exact Nat.le_trans (name10_len (HG.out.nm _ hna).1) (by decide)
      have HTK := Lib.hid (HT.out wr (tx10 A[k].1) HW.out hsz)
      have hgk : getV A A[k].1 = some A[k].2 := (getV_some HG.out.rise).2 hna
      have HTE : Hid (tell1 L S A[k].1 A[k].2 = ⟨hasA A A[k].1, getE L A[k].1, disA A A[k].1, of10 S A[k].1⟩) := by
        show _ = _
        unfold tell1 hasA disA
        rw [hgk]
      have HTT : Hid ((tell11 A L S).take (k + 1) = (tell11 A L S).take k ++ [(A[k].1, tell1 L S A[k].1 A[k].2)]) := by
        have hkt : k < (tell11 A L S).length := by rw [tell_len]; exact hkl
        show _ = _
        rw [List.take_succ_eq_append_getElem hkt]
        congr 1
        simp [tell11]
      have HNM : Hid ((tx10 A[k].1).data.toList = A[k].1) := tx10_list _
      generalize hkn : A[k].1 = kn at *
      generalize hsn : tx10 kn = sn at *
      have HSN := Lib.hid hsn
      clear hnm hr2 hle hsz hna hgk hkn hsn
      go_wp2_with fail
      with_reducible refine HTK.out.mono ?_
      rintro e w2 ⟨v, rfl, ⟨ga, gc, rfl, hgr⟩, hb⟩
      rw [HNM.out] at hgr ⊢
      have HGR := Lib.hid hgr
      have HU2 := Lib.hid (ownsRow_below11 HU.out hb)
      have HR3 := Lib.hid (ownsRow_below11 HR2.out hb)
      have HGS2 := Lib.hid (HGS.out.later hb)
      have HB2 := Lib.hid (below_next HW.out hb)
      clear hgr hb HTK hcell
      generalize hha : tx10 (hasA A kn) = sh at *
      have HHA : Hid (sh.data.toList = hasA A kn) := by rw [← hha]; exact tx10_list _
      generalize hhm : tx10 (getE L kn) = sm at *
      have HHM : Hid (sm.data.toList = getE L kn) := by rw [← hhm]; exact tx10_list _
      clear hha hhm
      generalize hdd : disA A kn = dd at *
      generalize hgs : of10 S kn = gs at *
      generalize hgl : gs.length = gl at *
      have HGL := Lib.hid hgl
      clear hdd hgs hgl
      have hrk : k ≤ 12 := by omega
      go_wp2_with (first
        | (at_builtin; refine wpList_append_own _ rfl _ _ 27 rfl w.heap.size 37 i0 (.agg #[.string ⟨#[]⟩, .string ⟨#[]⟩, .string ⟨#[]⟩, .bool false, .slice none 0 0]) 5 80 Tryz.underlying27 hi hz0 hz1 hz2 rfl (by decide) _ _ _ rfl (HU2.out.alloc _) ⟨w2.heap.size, 0, none⟩ 1 1 [.string sn, .string sh, .string sm, .bool dd, .slice ga gl gc] rfl rfl
            (fun j u hu => by rw [Addr.add_lit, Nat.zero_add, World.cell?_alloc_at _ _ _ _ rfl]; simpa using hu) (by simp [Value.oneCell']) (by unfold maxLen; omega) (by omega) (by have := HB2.out.size; simp; omega) ?_
           intro v' w3 hown' hgrow _
           have HO := Lib.hid hown'
           have HGW := Lib.hid hgrow
           clear hown' hgrow)
        | fail)
      go_roundg (n - (k + 1))
      case measure => omega
      case rel =>
        refine ⟨k + 1, by omega, by omega, by go_num, (show Hid _ from ?_), (show Hid _ from ?_), R ++ [(kn, ⟨sh, sm, dd, ga, gs, gc⟩)], by rw [List.length_append, hRl]; rfl, (show Hid _ from ?_), (show Hid _ from ?_), (show Hid _ from ?_)⟩
        · exact (below_next HB2.out (below_alloc (Below.refl _ _) _)).grown HGW.out (by have := HB2.out.size; simp; omega) (fun j hj => (HU2.out.lt j hj).1)
        · exact (HR3.out.alloc _).kept HGW.out (rows_apart11 HR3.out HU2.out (by decide))
        · show plainR _ = _
          rw [HTT.out, HTE.out, ← HPL.out]
          unfold plainR
          rw [List.map_append]
          show _ ++ [(kn, W11.u ⟨sh, sm, dd, ga, gs, gc⟩)] = _
          unfold W11.u
          rw [HHA.out, HHM.out]
        · rw [List.flatMap_append]
          have ho := HO.out
          have e : [(kn, (⟨sh, sm, dd, ga, gs, gc⟩ : W11))].flatMap cu11 = [.string sn, .string sh, .string sm, .bool dd, .slice ga gl gc] := by
            simp [cu11, HSN.out, HGL.out]
          rw [e]
          exact ho
        · intro p hp
          rcases List.mem_append.1 hp with hp | hp
          · have h := HGS2.out p hp
            exact (h.alloc _).kept HGW.out (rows_apart11 h HU2.out (by decide))
          · obtain rfl := List.mem_singleton.1 hp
            have h := HGR.out
            show World.ownsRow _ _ _ _ (.slice ga gs.length gc) gs.length (gs.map encStr)
            rw [HGL.out]
            exact (h.alloc _).kept HGW.out (rows_apart11 h HU2.out (by decide))
    · have hltz : ¬ (k : Int) < (n : Int) := by omega
      obtain rfl : k = n := by omega
      go_wp2
      go_ret
      have hp := HPL.out
      have hu := HU.out
      rw [← hRl] at hu
      rw [List.take_of_length_le (by rw [tell_len, HLN.out]; exact Nat.le_refl _)] at hp
      exact ⟨_, rfl, R, ⟨hu, HGS.out⟩, hp, HW.out⟩
end
end Go.Proofs.YtmcomnocpibiiaaGreatDoor
namespace Go.Proofs.YtmcomnocpibiiaaGreatDoor
open Go.RowKit Go.Maps

section
variable {W W' : World} {b : Nat} {v1 v2 : Value}
end



theorem Gs11.put {b : Nat} {w : World} {R : RowV W11} (h : Gs11 b w R) (n : List UInt8) (x : W11) (hx : w.ownsRow b 9 1 (.slice x.ga x.gs.length x.gc) x.gs.length (x.gs.map encStr)) : Gs11 b w (putV R n x) := fun p hp => by
 rcases mem_putV.1 hp with rfl | ⟨hp, _⟩
 ·
  exact hx
 ·
  exact h p hp
theorem Gs11.del {b : Nat} {w : World} {R : RowV W11} (h : Gs11 b w R) (n : List UInt8) : Gs11 b w (delV R n) := fun p hp => h p (mem_delV.1 hp).1
theorem Gs11.get {b : Nat} {w : World} {R : RowV W11} (h : Gs11 b w R) (hr : RiseV R) {n : List UInt8} {x : W11} (hx : getV R n = some x) : NmR w (.slice x.ga x.gs.length x.gc) x.gs := ownsRow_low10 (h (n, x) ((getV_some hr).1 hx)) (Nat.zero_le _)



end Go.Proofs.YtmcomnocpibiiaaGreatDoor
namespace Go.Proofs.YtmcomnocpibiiaaGreatDoor
open Go.RowKit Go.Maps




end Go.Proofs.YtmcomnocpibiiaaGreatDoor
namespace Go.Proofs.YtmcomnocpibiiaaGreatDoor
open Go.RowKit Go.Maps Go.Sort Go.Shelf
set_option linter.unusedVariables false

def bl11 (G : List ByteArray) : List (List UInt8) := G.map (·.data.toList)

def oneD11 (G : List ByteArray) (pre : List Us) (u : Us) : Int :=
 if u.gs.all (fun g => hasT (bl11 G) g.data.toList) then (if pre.any (fun v => !(u.ml.data.toList == []) && (u.ml.data.toList == v.ml.data.toList)) then 9 else 0) else 8
def restD11 (G : List ByteArray) : List Us → List Us → Int
 | _, [] => 0
 | pre, u :: r => if oneD11 G pre u = 0 then restD11 G (pre ++ [u]) r else oneD11 G pre u
def ofD11 (l : List Us) (G : List ByteArray) : Int :=
 if ofE11 l = 0 then (if names6 G then (if rise6 G then (if G.length ≤ 6 then restD11 G [] l else 7) else 9) else 10) else ofE11 l
theorem restD_step {G : List ByteArray} {l : List Us} {k : Nat} (hk : k < l.length) : restD11 G (l.take k) (l.drop k) = if oneD11 G (l.take k) l[k] = 0 then restD11 G (l.take (k + 1)) (l.drop (k + 1)) else oneD11 G (l.take k) l[k] := by
 rw [List.drop_eq_getElem_cons hk, List.take_succ_eq_append_getElem hk]
 rfl

end Go.Proofs.YtmcomnocpibiiaaGreatDoor
namespace Go.Proofs.YtmcomnocpibiiaaGreatDoor
open Go.RowKit Go.Maps Go.Shelf

def MkA11 (A : Acc11) (W : World) (v : Value) (F : Nat → Prop) : Prop := ∃ b, v = .map (some b) ∧ Acc11At W b A ∧ F b
def MkM11 (L : Row7) (W : World) (v : Value) (F : Nat → Prop) : Prop := ∃ M p q LM, v = .pointer (some ⟨M, 0, none⟩) ∧ Idx9 W M p q L LM ∧ ∀ i, fpM11 M p q i → F i
def MkG11 (S : Grs10) (W : World) (v : Value) (F : Nat → Prop) : Prop := ∃ G pg T, v = .pointer (some ⟨G, 0, none⟩) ∧ Grp10 W G pg T ∧ plain10 T = S ∧ ∀ i, fpG11 G pg T i → F i
def Trio11 (w W : World) (A : Acc11) (L : Row7) (S : Grs10) (P M G : Nat) : Prop :=
 ∃ p q LM pg T, Acc11At W P A ∧ Idx9 W M p q L LM ∧ Grp10 W G pg T ∧ plain10 T = S ∧ (∀ i, fpM11 M p q i → i ≠ P) ∧ (∀ i, fpG11 G pg T i → i ≠ P) ∧ (∀ i, fpM11 M p q i → fpG11 G pg T i → False) ∧ (∀ i, i = P ∨ fpM11 M p q i ∨ fpG11 G pg T i → w.heap.size ≤ i)
def YCo11 (D P M G : Nat) : Nat → Value → Prop
 | 3, v => v = .map (some P)
 | 7, v => v = .pointer (some ⟨D, 1, none⟩)
 | 8, v => v = .pointer (some ⟨M, 0, none⟩)
 | 12, v => v = .pointer (some ⟨D, 2, none⟩)
 | 13, v => v = .pointer (some ⟨G, 0, none⟩)
 | 4, _ => True
 | 9, _ => True
 | 14, _ => True
 | 15, _ => True
 | 16, _ => True
 | 17, _ => True
 | _, v => v = .pointer (some ⟨D, 0, none⟩)
structure Co11 (w : World) (D P M G : Nat) (A : Acc11) (L : Row7) (S : Grs10) (E : Nat → Bool) (x : Nat → Value) (W : World) : Prop where
 b : Below w.heap.size w W
 y : ∀ {j : Nat}, E j = true → YCo11 D P M G j (x j)
 f : ∃ F4 F9 F14 : Nat → Prop, (E 4 = true → MkA11 A W (x 4) F4) ∧ (E 9 = true → MkM11 L W (x 9) F9) ∧ (E 14 = true → MkG11 S W (x 14) F14) ∧
  (∀ i, F4 i ∨ F9 i ∨ F14 i → w.heap.size ≤ i ∧ i < W.heap.size) ∧ (∀ i, F4 i → F9 i → False) ∧ (∀ i, F4 i → F14 i → False) ∧ (∀ i, F9 i → F14 i → False)
 y15 : E 15 = true → ∃ P' M' G', x 15 = .agg #[.map (some P'), .pointer (some ⟨M', 0, none⟩), .pointer (some ⟨G', 0, none⟩)] ∧ Trio11 w W A L S P' M' G'
 y16 : E 16 = true → ∃ D' P' M' G', x 16 = .pointer (some ⟨D', 0, none⟩) ∧ Own11 w W D' P' M' G' A L S
 y17 : E 17 = true → ∃ D' P' M' G', x 17 = .pointer (some ⟨D', 0, none⟩) ∧ Own11 w W D' P' M' G' A L S

section
variable {w W W' : World} {D P M G : Nat} {A : Acc11} {L : Row7} {S : Grs10} {E : Nat → Bool} {x : Nat → Value}
theorem Trio11.later {P' M' G' : Nat} (h : Trio11 w W A L S P' M' G') (hb : Below W.heap.size W W') : Trio11 w W' A L S P' M' G' := by
 obtain ⟨p, q, LM, pg, T, h1, h2, h3, h4⟩ := h
 exact ⟨p, q, LM, pg, T, h1.kept (hb.block _ h1.lt), h2.later hb, h3.later hb, h4⟩
theorem MkA11.later {v : Value} {F : Nat → Prop} (h : MkA11 A W v F) (hb : Below W.heap.size W W') : MkA11 A W' v F := by
 obtain ⟨b, e, h1, h2⟩ := h
 exact ⟨b, e, h1.kept (hb.block _ h1.lt), h2⟩
theorem MkM11.later {v : Value} {F : Nat → Prop} (h : MkM11 L W v F) (hb : Below W.heap.size W W') : MkM11 L W' v F := by
 obtain ⟨M, p, q, LM, e, h1, h2⟩ := h
 exact ⟨M, p, q, LM, e, h1.later hb, h2⟩
theorem MkG11.later {v : Value} {F : Nat → Prop} (h : MkG11 S W v F) (hb : Below W.heap.size W W') : MkG11 S W' v F := by
 obtain ⟨G, pg, T, e, h1, h2⟩ := h
 exact ⟨G, pg, T, e, h1.later hb, h2⟩
theorem updE_same {x : Nat → Value} {i : Nat} {v : Value} : upd x i v i = v := if_pos rfl
theorem updE_ne {x : Nat → Value} {i j : Nat} {v : Value} (h : j ≠ i) : upd x i v j = x j := if_neg h
theorem updLE_ne {E : Nat → Bool} {i j : Nat} (h : j ≠ i) : updL E i j = E j := if_neg h
theorem Co11.more (h : Co11 w D P M G A L S E x W) (i : Nat) (v : Value) (hb : Below W.heap.size W W') (hy : YCo11 D P M G i v)
  (h4 : i = 4 → MkA11 A W' v (fun j => W.heap.size ≤ j ∧ j < W'.heap.size)) (h9 : i = 9 → MkM11 L W' v (fun j => W.heap.size ≤ j ∧ j < W'.heap.size)) (h14 : i = 14 → MkG11 S W' v (fun j => W.heap.size ≤ j ∧ j < W'.heap.size))
  (h15 : i = 15 → ∃ P' M' G', v = .agg #[.map (some P'), .pointer (some ⟨M', 0, none⟩), .pointer (some ⟨G', 0, none⟩)] ∧ Trio11 w W' A L S P' M' G') (h16 : i = 16 → ∃ D' P' M' G', v = .pointer (some ⟨D', 0, none⟩) ∧ Own11 w W' D' P' M' G' A L S) (h17 : i = 17 → ∃ D' P' M' G', v = .pointer (some ⟨D', 0, none⟩) ∧ Own11 w W' D' P' M' G' A L S) :
  Co11 w D P M G A L S (updL E i) (upd x i v) W' := by
 refine ⟨below_next h.b hb, fun {j} hd => ?_, ?_, fun hd => ?_, fun hd => ?_, fun hd => ?_⟩
 ·
  by_cases e : j = i
  ·
   subst e; rw [updE_same]; exact hy
  ·
   rw [updE_ne e]; rw [updLE_ne e] at hd; exact h.y hd
 ·
  obtain ⟨F4, F9, F14, g4, g9, g14, hr, d1, d2, d3⟩ := h.f
  have hs := hb.size
  have hw := h.b.size
  by_cases i4 : i = 4
  ·
   subst i4
   refine ⟨(fun j => W.heap.size ≤ j ∧ j < W'.heap.size), F9, F14, fun _ => by rw [updE_same]; exact h4 rfl, fun hd => ?_, fun hd => ?_, ?_, ?_, ?_, d3⟩
   ·
    rw [updE_ne (by decide)]; rw [updLE_ne (by decide)] at hd; exact (g9 hd).later hb
   ·
    rw [updE_ne (by decide)]; rw [updLE_ne (by decide)] at hd; exact (g14 hd).later hb
   ·
    rintro j (h1 | h1 | h1)
    ·
     omega
    ·
     have := hr j (.inr (.inl h1)); omega
    ·
     have := hr j (.inr (.inr h1)); omega
   ·
    intro j h1 h2; have := hr j (.inr (.inl h2)); omega
   ·
    intro j h1 h2; have := hr j (.inr (.inr h2)); omega
  ·
   by_cases i9 : i = 9
   ·
    subst i9
    refine ⟨F4, (fun j => W.heap.size ≤ j ∧ j < W'.heap.size), F14, fun hd => ?_, fun _ => by rw [updE_same]; exact h9 rfl, fun hd => ?_, ?_, ?_, d2, ?_⟩
    ·
     rw [updE_ne (by decide)]; rw [updLE_ne (by decide)] at hd; exact (g4 hd).later hb
    ·
     rw [updE_ne (by decide)]; rw [updLE_ne (by decide)] at hd; exact (g14 hd).later hb
    ·
     rintro j (h1 | h1 | h1)
     ·
      have := hr j (.inl h1); omega
     ·
      omega
     ·
      have := hr j (.inr (.inr h1)); omega
    ·
     intro j h1 h2; have := hr j (.inl h1); omega
    ·
     intro j h1 h2; have := hr j (.inr (.inr h2)); omega
   ·
    by_cases i14 : i = 14
    ·
     subst i14
     refine ⟨F4, F9, (fun j => W.heap.size ≤ j ∧ j < W'.heap.size), fun hd => ?_, fun hd => ?_, fun _ => by rw [updE_same]; exact h14 rfl, ?_, d1, ?_, ?_⟩
     ·
      rw [updE_ne (by decide)]; rw [updLE_ne (by decide)] at hd; exact (g4 hd).later hb
     ·
      rw [updE_ne (by decide)]; rw [updLE_ne (by decide)] at hd; exact (g9 hd).later hb
     ·
      rintro j (h1 | h1 | h1)
      ·
       have := hr j (.inl h1); omega
      ·
       have := hr j (.inr (.inl h1)); omega
      ·
       omega
     ·
      intro j h1 h2; have := hr j (.inl h1); omega
     ·
      intro j h1 h2; have := hr j (.inr (.inl h1)); omega
    ·
     refine ⟨F4, F9, F14, fun hd => ?_, fun hd => ?_, fun hd => ?_, fun j hj => ⟨(hr j hj).1, Nat.lt_of_lt_of_le (hr j hj).2 hs⟩, d1, d2, d3⟩
     ·
      rw [updE_ne (Ne.symm i4)]; rw [updLE_ne (Ne.symm i4)] at hd; exact (g4 hd).later hb
     ·
      rw [updE_ne (Ne.symm i9)]; rw [updLE_ne (Ne.symm i9)] at hd; exact (g9 hd).later hb
     ·
      rw [updE_ne (Ne.symm i14)]; rw [updLE_ne (Ne.symm i14)] at hd; exact (g14 hd).later hb
 ·
  by_cases e : 15 = i
  ·
   subst e; rw [updE_same]; exact h15 rfl
  ·
   rw [updE_ne e]; rw [updLE_ne e] at hd; obtain ⟨a, b, c, e1, e2⟩ := h.y15 hd; exact ⟨a, b, c, e1, e2.later hb⟩
 ·
  by_cases e : 16 = i
  ·
   subst e; rw [updE_same]; exact h16 rfl
  ·
   rw [updE_ne e]; rw [updLE_ne e] at hd; obtain ⟨a, b, c, d, e1, e2⟩ := h.y16 hd; exact ⟨a, b, c, d, e1, e2.later hb⟩
 ·
  by_cases e : 17 = i
  ·
   subst e; rw [updE_same]; exact h17 rfl
  ·
   rw [updE_ne e]; rw [updLE_ne e] at hd; obtain ⟨a, b, c, d, e1, e2⟩ := h.y17 hd; exact ⟨a, b, c, d, e1, e2.later hb⟩
theorem Co11.quiet (h : Co11 w D P M G A L S E x W) (i : Nat) {v : Value} (hy : YCo11 D P M G i v) (hi : [4, 9, 14, 15, 16, 17].contains i = false := by rfl) : Co11 w D P M G A L S (updL E i) (upd x i v) W :=
 h.more i v (Below.refl _ _) hy (fun e => by subst e; cases hi) (fun e => by subst e; cases hi) (fun e => by subst e; cases hi) (fun e => by subst e; cases hi) (fun e => by subst e; cases hi) (fun e => by subst e; cases hi)
theorem Co11.start (w : World) (x : Nat → Value) : Co11 w D P M G A L S (fun _ => false) x w.drew :=
 ⟨below_drew (Below.refl _ _), (fun {_} h => nomatch h), ⟨(fun _ => False), (fun _ => False), (fun _ => False), (fun h => nomatch h), (fun h => nomatch h), (fun h => nomatch h), (fun _ h => by rcases h with h | h | h <;> exact h.elim), (fun _ h _ => h), (fun _ h _ => h), (fun _ h _ => h)⟩, (fun h => nomatch h), (fun h => nomatch h), (fun h => nomatch h)⟩
end

section
variable {w0 w : World} {D P M G : Nat} {A : Acc11} {L : Row7} {S : Grs10} {k : Nat}
end
end Go.Proofs.YtmcomnocpibiiaaGreatDoor
namespace Go.Proofs.YtmcomnocpibiiaaGreatDoor
open Go.RowKit Go.Maps

section
variable {L : RowV W11} {n h : List UInt8}
end







end Go.Proofs.YtmcomnocpibiiaaGreatDoor
namespace Go.Proofs.YtmcomnocpibiiaaGreatDoor
open Go.RowKit Go.Maps



end Go.Proofs.YtmcomnocpibiiaaGreatDoor
namespace Go.Proofs.YtmcomnocpibiiaaGreatDoor
open Go.RowKit Go.Maps

end Go.Proofs.YtmcomnocpibiiaaGreatDoor
namespace Go.Proofs.YtmcomnocpibiiaaGreatDoor
open Go.RowKit Go.Maps

end Go.Proofs.YtmcomnocpibiiaaGreatDoor
namespace Go.Proofs.YtmcomnocpibiiaaGreatDoor
open Go.RowKit Go.Maps



end Go.Proofs.YtmcomnocpibiiaaGreatDoor
namespace Go.Proofs.YtmcomnocpibiiaaGreatDoor
open Go.RowKit Go.Maps

section
variable {T : Usr11} {kd : Nat} {a b : List UInt8}
end
end Go.Proofs.YtmcomnocpibiiaaGreatDoor
namespace Go.Proofs.YtmcomnocpibiiaaGreatDoor
open Go.RowKit Go.Maps
set_option linter.unusedVariables false

section
variable {W W' : World} {b kd : Nat} {x y : ByteArray} {z : Bool}
end
section
variable {w0 W : World} {D P M G : Nat} {A : Acc11} {L : Row7} {S : Grs10} {k : Nat}












end
end Go.Proofs.YtmcomnocpibiiaaGreatDoor
namespace Go.Proofs.YtmcomnocpibiiaaGreatDoor
open Go.RowKit Go.Maps Go.Shelf



def us11 (q : List UInt8 × W11) : Us := ⟨tx10 q.1, q.2.hs, q.2.ml, q.2.dis, q.2.ga, q.2.gs.map tx10, q.2.gc⟩
theorem us11_cells (q : List UInt8 × W11) : (us11 q).cells = (cu11 q).toArray := by
 unfold us11 Us.cells cu11
 simp
theorem rd_us11 {w : World} {A : Option Addr} {c n : Nat} {R : RowV W11} (h : Us11r w (.slice A n c) R) : n = (R.map us11).length ∧ RdU7 w A (R.map us11) := by
 obtain ⟨A', c', e, hc⟩ := h
 injection e with e1 e2 e3
 subst e1 e2 e3
 refine ⟨by simp, fun hne => ?_⟩
 have h0 : 0 < R.length := by
  rcases R with _ | ⟨q, r⟩
  ·
   exact absurd rfl hne
  ·
   exact Nat.succ_pos _
 obtain ⟨g, e, hg⟩ := hc 0 h0
 refine ⟨g, 0, e, World.block_lt_of_cell? w _ (hg 0 _ rfl), fun i hi j u hu => ?_⟩
 have hi' : i < R.length := by simpa using hi
 obtain ⟨g', e', hg'⟩ := hc i hi'
 rw [e] at e'
 injection e' with e'
 injection e' with e'
 subst e'
 have hu' : (cu11 R[i])[j]? = some u := by
  rw [List.getElem_map, us11_cells] at hu
  simpa using hu
 have := hg' j u hu'
 rwa [Nat.zero_add]
structure Short11 (T : Usr11) : Prop where
 few : T.length ≤ 12
 nm : ∀ p ∈ T, p.1.length ≤ 1000
 hs : ∀ p ∈ T, p.2.hs.length ≤ 1000
 ml : ∀ p ∈ T, p.2.ml.length ≤ 1000
 gs : ∀ p ∈ T, ∀ g ∈ p.2.gs, g.length ≤ 1000
theorem short11 {A : Acc11} {L : Row7} {S : Grs10} {k : Nat} (hg : Good11 A L S k) : Short11 (tell11 A L S) := by
 have hq : ∀ p ∈ tell11 A L S, ∃ q ∈ A, p = (q.1, tell1 L S q.1 q.2) := fun p hp => by
  obtain ⟨q, hq, e⟩ := List.mem_map.1 hp
  exact ⟨q, hq, e.symm⟩
 refine ⟨by rw [tell_len]; exact hg.few, fun p hp => ?_, fun p hp => ?_, fun p hp => ?_, fun p hp g hgg => ?_⟩
 ·
  obtain ⟨q, hq, rfl⟩ := hq p hp
  exact Nat.le_trans (name10_len (hg.nm q hq).1) (by decide)
 ·
  obtain ⟨q, hq, rfl⟩ := hq p hp
  exact hash11_len (hg.nm q hq).2
 ·
  obtain ⟨q, hq, rfl⟩ := hq p hp
  show (getE L q.1).length ≤ 1000
  cases hh : hasE L q.1 with
  | false => rw [getE_none hh]; simp
  | true =>
   have := hg.all _ (hasE_mem hh)
   exact Nat.le_trans (mail5_len this.2.1) (by decide)
 ·
  obtain ⟨q, hq, rfl⟩ := hq p hp
  have h1 := of10_sub hgg
  obtain ⟨x, hx, rfl⟩ := List.mem_map.1 h1
  exact Nat.le_trans (name10_len (hg.grp.named x hx)) (by decide)
theorem us11_ok {w : World} {q : List UInt8 × W11} (hr : w.ownsRow 0 9 1 (.slice q.2.ga q.2.gs.length q.2.gc) q.2.gs.length (q.2.gs.map encStr)) (h1 : q.1.length ≤ 1000) (h2 : q.2.hs.size ≤ 1000) (h3 : q.2.ml.size ≤ 1000) (h4 : ∀ g ∈ q.2.gs, g.length ≤ 1000) : (us11 q).Ok w := by
 refine ⟨fun hne => ?_, ?_, Nat.le_trans h2 (by decide), Nat.le_trans h3 (by decide), fun hn => ?_, ?_, ?_, fun s hs => ?_⟩
 ·
  have hn0 : 0 < q.2.gs.length := by
   rcases hq : q.2.gs with _ | ⟨a, r⟩
   ·
    exact absurd (show (us11 q).gs = [] by unfold us11; rw [hq]; rfl) hne
   ·
    exact Nat.succ_pos _
  obtain ⟨g, cx, e, c0⟩ := NmR.at_ (N := q.2.gs) hr (k := 0) hn0
  injection e with e
  refine ⟨g, 0, e, World.block_lt_of_cell? w _ c0, fun j hj => ?_⟩
  have hj' : j < q.2.gs.length := by have : (us11 q).gs.length = q.2.gs.length := List.length_map _; omega
  obtain ⟨g', cx', e', cj⟩ := NmR.at_ (N := q.2.gs) hr (k := j) hj'
  injection e' with e'
  rw [e] at e'
  injection e' with e'
  injection e' with e'
  subst e'
  rw [Nat.zero_add, cj]
  have eg : (us11 q).gs[j] = tx10 q.2.gs[j] := List.getElem_map ..
  rw [eg]
 ·
  show (tx10 q.1).size ≤ _
  rw [tx10_size]; exact Nat.le_trans h1 (by decide)
 ·
  rcases hr.2 with ⟨e, _⟩ | ⟨g, cap, cur, e, _⟩
  ·
   injection e
  ·
   injection e with e; rw [show q.2.ga = none from hn] at e; cases e
 ·
  show (q.2.gs.map tx10).length ≤ q.2.gc
  rw [List.length_map]
  rcases hr.2 with ⟨e, h0⟩ | ⟨g, cap, cur, e, _, _, r1, _⟩
  ·
   omega
  ·
   injection e with _ _ e; omega
 ·
  rcases hr.2 with ⟨e, h0⟩ | ⟨g, cap, cur, e, _, _, r1, r2, _⟩
  ·
   injection e with _ _ e; show q.2.gc ≤ _; omega
  ·
   injection e with _ _ e
   show q.2.gc ≤ _
   have := r2
   unfold maxLen at this
   omega
 ·
  obtain ⟨g, hg, rfl⟩ := List.mem_map.1 hs
  rw [tx10_size]; exact Nat.le_trans (h4 g hg) (by decide)

section
variable {w0 w : World} {D P M G : Nat} {A : Acc11} {L : Row7} {S : Grs10} {k : Nat}
end
end Go.Proofs.YtmcomnocpibiiaaGreatDoor
namespace Go.Proofs.YtmcomnocpibiiaaGreatDoor
open Go.ChangeShapes Go.WideShapes Go.ChangeAt Go.RowKit Go.Deep

structure ActN where
 kd : Nat
 nm : ByteArray
 hs : ByteArray
 is_ : Bool
def ActN.cells (t : ActN) : List Value := [.int .u8 (t.kd : Int), .string t.nm, .string t.hs, .bool t.is_]

section
variable {H : Type} {enc : TypeId × Value → H} {W : World} {base : Nat} {sp : Nat → Bool} {hd : Bool} {fuel : Nat}

end
end Go.Proofs.YtmcomnocpibiiaaGreatDoor
namespace Go.Proofs.YtmcomnocpibiiaaGreatDoor
open Go.RowKit Go.Maps




end Go.Proofs.YtmcomnocpibiiaaGreatDoor
