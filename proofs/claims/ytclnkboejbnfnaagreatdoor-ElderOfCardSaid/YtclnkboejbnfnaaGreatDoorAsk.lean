/-
  Functions that ask of one byte whether it may stand somewhere, and texts that are asked byte by byte.
  Conditions: none beyond each theorem's own.
-/
import Derived.WalkKit
import Derived.Deep.Draws
import Derived.Deep.LoopGhost
import Derived.Shelf.Abstract
import Derived.Lib.Hide
import Derived.Test.YtclnkboejbnfnaaGreatDoorProg
namespace Go.Proofs.YtclnkboejbnfnaaGreatDoor
open Go.RowKit Go.Shelf

theorem below_next {a b c : World} (h : Below a.heap.size a b) (k : Below b.heap.size b c) : Below a.heap.size a c := h.trans (k.mono h.size)
theorem below_drewN {a w : World} (h : Below a.heap.size a w) (q : Nat) : Below a.heap.size a (w.drewN q) := ⟨h.os, h.tape, h.output, h.size, h.block⟩
theorem below_drew {a w : World} (h : Below a.heap.size a w) : Below a.heap.size a w.drew := ⟨h.os, h.tape, h.output, h.size, h.block⟩
theorem below_alloc {a w : World} (h : Below a.heap.size a w) (o : Obj) : Below a.heap.size a (w.alloc o) := h.alloc h.size o

/-- A byte as a value. -/
def encB (b : UInt8) : Value := .int .u8 b.toNat

/-- The value v is a function that tells p of every byte, now and in every later world; it turns nothing. -/
def Asks (v : Value) (p : UInt8 → Bool) (w : World) : Prop :=
  ∃ g lb, v = .func (.func g) #[] lb ∧ (∀ args w, (callFunc g args).run Tryz.prog w = .ok (.enter g args) w) ∧
    ∀ (W : World) (x : UInt8), Below w.heap.size w W → Calls Tryz.prog g (#[encB x] ++ lb) W fun e w' => e = .returned (.bool (p x)) ∧ ∃ q, w' = W.drewN q

theorem Asks.later {v : Value} {p : UInt8 → Bool} {w W : World} (h : Asks v p w) (hb : Below w.heap.size w W) : Asks v p W := by
  obtain ⟨g, lb, e, eg, hp⟩ := h
  exact ⟨g, lb, e, eg, fun W' x hb' => hp W' x (below_next hb hb')⟩
theorem Asks.like {v : Value} {p p' : UInt8 → Bool} {w : World} (h : Asks v p w) (e : ∀ x, p x = p' x) : Asks v p' w := by
  obtain rfl : p = p' := funext e
  exact h

/-- From one byte up to another one. -/
def inR (a b : Nat) (c : UInt8) : Bool := decide (a ≤ c.toNat) && decide (c.toNat ≤ b)

/-- A function value is told that asks p; nothing that was there has turned. -/
def Makes5 (p : UInt8 → Bool) (w : World) (e : Ending) (w' : World) : Prop := ∃ g lb, e = .returned (.func (.func g) #[] lb) ∧ Asks (.func (.func g) #[] lb) p w' ∧ Below w.heap.size w w'

theorem mkf : ∀ (fn : Fn) (first cap : Array Value) (w : World), (Instr.makeFunc fn first cap).run Tryz.prog w = .ok (.func fn first cap) w := fun _ _ _ _ => rfl

set_option maxRecDepth 100000 in
theorem within1_calls (B C a b : Nat) (x : UInt8) (w : World) (ha : w.cell? ⟨B, 0, none⟩ = some (.int .u8 a)) (hb : w.cell? ⟨C, 0, none⟩ = some (.int .u8 b)) :
    Calls Tryz.prog 281 #[encB x, .pointer (some ⟨B, 0, none⟩), .pointer (some ⟨C, 0, none⟩)] w fun e w' => e = .returned (.bool (inR a b x)) ∧ ∃ q, w' = w.drewN q := by
  unfold encB inR
  generalize x.toNat = n
  by_cases h1 : a ≤ n <;> by_cases h2 : n ≤ b
  all_goals
    have z1 : (a : Int) ≤ (n : Int) ↔ a ≤ n := by omega
    have z2 : (n : Int) ≤ (b : Int) ↔ n ≤ b := by omega
    go_enter Tryz.func281, Tryz.ntmps281
    go_wp2
    all_goals first | (exfalso; omega) | (go_ret; exact ⟨by simp [h1, h2], 0, rfl⟩)

set_option maxRecDepth 100000 in
theorem within_calls (a b : Nat) (w : World) : Calls Tryz.prog 262 #[.int .u8 a, .int .u8 b] w (Makes5 (inR a b) w) := by
  have hmf := mkf
  go_enter Tryz.func262, Tryz.ntmps262
  go_wp2
  go_ret
  refine ⟨_, _, rfl, ?_, below_alloc (below_alloc (Below.refl _ _) _) _⟩
  refine ⟨_, _, rfl, enters_of Tryz.func281 (by kernel_rfl) rfl, fun W x hb => ?_⟩
  exact within1_calls _ _ a b x W ((hb.cell (p := ⟨_, 0, none⟩) (by simp; try omega)).trans (by simp)) ((hb.cell (p := ⟨_, 0, none⟩) (by simp; try omega)).trans (by simp))

theorem within_int (x y : Int) (a b : Nat) (hx : x = a) (hy : y = b) (w : World) : Calls Tryz.prog 262 #[.int .u8 x, .int .u8 y] w (Makes5 (inR a b) w) := by
  subst hx; subst hy; exact within_calls a b w

/-- A row of askers at block B. -/
def AskRow (w : World) (B : Nat) (l : List (Value × (UInt8 → Bool))) : Prop :=
  B < w.heap.size ∧ ∀ j (h : j < l.length), w.cell? ⟨B, j, none⟩ = some l[j].1 ∧ Asks l[j].1 l[j].2 w
theorem AskRow.later {w W : World} {B : Nat} {l : List (Value × (UInt8 → Bool))} (h : AskRow w B l) (hb : Below w.heap.size w W) : AskRow W B l :=
  ⟨Nat.lt_of_lt_of_le h.1 hb.size, fun j hj => ⟨(hb.cell (p := ⟨B, j, none⟩) h.1).trans (h.2 j hj).1, (h.2 j hj).2.later hb⟩⟩

set_option maxRecDepth 100000 in
theorem either1_calls (C B n cap : Nat) (l : List (Value × (UInt8 → Bool))) (x : UInt8) (w : World) (hl : n = l.length) (hn : n ≤ 1000) (hc : w.cell? ⟨C, 0, none⟩ = some (.slice (some ⟨B, 0, none⟩) n cap)) (hr : AskRow w B l) :
    Calls Tryz.prog 280 #[encB x, .pointer (some ⟨C, 0, none⟩)] w fun e w' => e = .returned (.bool (l.any fun a => a.2 x)) ∧ ∃ q, w' = w.drewN q := by
  have HR := Lib.hid hr
  have HL := Lib.hid hl
  clear hr hl
  generalize hx : encB x = xv
  have HX := Lib.hid hx
  clear hx
  go_enter Tryz.func280, Tryz.ntmps280
  go_wp2
  go_loopg [5, 8] n (fun gg _ s8 wr => ∃ kk q : Nat, kk ≤ n ∧ n - kk ≤ gg ∧ s8 = .int .i64 kk ∧ wr = w.drewN q ∧ Hid (∀ j (h : j < l.length), j < kk → l[j].2 x = false))
  case atStart => exact ⟨0, 0, Nat.zero_le _, by omega, rfl, rfl, fun j _ hj => absurd hj (Nat.not_lt_zero _)⟩
  case round =>
    obtain ⟨kk, q, hkk, hg, rfl, rfl, A⟩ := hrel
    by_cases hlt : kk < n
    · have hltz : (kk : Int) < (n : Int) := by omega
      have hk : kk < l.length := HL.out ▸ hlt
      obtain ⟨hcell, g, lb, hv, eg, hp⟩ := HR.out.2 kk hk
      have HF := Lib.hid (rfl : l[kk].2 x = l[kk].2 x)
      have hcall := hp (w.drewN q) x (below_drewN (Below.refl _ _) q)
      rw [hv] at hcell
      rw [HX.out] at hcall
      have HC := Lib.hid hcall
      clear hp hcall hv
      cases hq : l[kk].2 x with
      | true =>
        have HQ := Lib.hid hq
        clear hq
        go_wp2_with (go_at_fn g; refine HC.out.mono ?_; rw [HQ.out]; rintro e w' ⟨rfl, q', rfl⟩)
        go_ret
        refine ⟨?_, _, rfl⟩
        have : (l.any fun a => a.2 x) = true := List.any_eq_true.2 ⟨l[kk], List.getElem_mem hk, HQ.out⟩
        rw [this]; rfl
      | false =>
        have HQ := Lib.hid hq
        clear hq
        go_wp2_with (go_at_fn g; refine HC.out.mono ?_; rw [HQ.out]; rintro e w' ⟨rfl, q', rfl⟩)
        go_roundg (n - (kk + 1))
        case measure => omega
        case rel =>
          refine ⟨kk + 1, _, by omega, by omega, by go_num, rfl, (show Hid _ from fun j h hj => ?_)⟩
          by_cases e : j = kk
          · subst e
            exact HQ.out
          · exact A.out j h (by omega)
    · have hltz : ¬ (kk : Int) < (n : Int) := by omega
      have : kk = n := by omega
      subst this
      go_wp2
      go_ret
      refine ⟨?_, q, rfl⟩
      have : (l.any fun a => a.2 x) = false := by
        rw [List.any_eq_false]
        intro a ha
        obtain ⟨j, hj, rfl⟩ := List.getElem_of_mem ha
        simp [A.out j hj (HL.out ▸ hj)]
      rw [this]; rfl

set_option maxRecDepth 100000 in
theorem either_calls (B n cap : Nat) (l : List (Value × (UInt8 → Bool))) (w : World) (hl : n = l.length) (hn : n ≤ 1000) (hr : AskRow w B l) :
    Calls Tryz.prog 260 #[.slice (some ⟨B, 0, none⟩) n cap] w (Makes5 (fun x => l.any fun a => a.2 x) w) := by
  have hmf := mkf
  have HR := Lib.hid hr
  have HL := Lib.hid hl
  clear hr hl
  go_enter Tryz.func260, Tryz.ntmps260
  go_wp2
  go_ret
  refine ⟨_, _, rfl, ?_, below_alloc (Below.refl _ _) _⟩
  refine ⟨_, _, rfl, enters_of Tryz.func280 (by kernel_rfl) rfl, fun W x hb => ?_⟩
  exact either1_calls _ B n cap l x W HL.out hn ((hb.cell (p := ⟨_, 0, none⟩) (by simp)).trans (by simp)) (HR.out.later (below_next (below_alloc (Below.refl _ _) _) hb))

def letter5 : UInt8 → Bool := inR 97 122
def digit5 : UInt8 → Bool := inR 48 57
def both5 (x : UInt8) : Bool := letter5 x || digit5 x
def sign5 (x : UInt8) : Bool := both5 x || inR 45 45 x || inR 46 46 x

set_option maxRecDepth 100000 in
theorem letter_calls (w : World) : Calls Tryz.prog 234 #[] w (Makes5 letter5 w) := by
  have HC := Lib.hid (within_int 97 122 97 122 rfl rfl w)
  go_enter Tryz.func234, Tryz.ntmps234
  go_wp2_with fail
  with_reducible refine HC.out.mono ?_
  rintro e w1 ⟨g, lb, rfl, ha, hb⟩
  have HA := Lib.hid ha
  have HB := Lib.hid hb
  clear ha hb
  go_wp2
  go_ret
  exact ⟨g, lb, rfl, HA.out, HB.out⟩

set_option maxRecDepth 100000 in
theorem digit_calls (w : World) : Calls Tryz.prog 261 #[] w (Makes5 digit5 w) := by
  have HC := Lib.hid (within_int 48 57 48 57 rfl rfl w)
  go_enter Tryz.func261, Tryz.ntmps261
  go_wp2_with fail
  with_reducible refine HC.out.mono ?_
  rintro e w1 ⟨g, lb, rfl, ha, hb⟩
  have HA := Lib.hid ha
  have HB := Lib.hid hb
  clear ha hb
  go_wp2
  go_ret
  exact ⟨g, lb, rfl, HA.out, HB.out⟩

theorem AskRow.two {w : World} {B : Nat} {v1 v2 : Value} {p1 p2 : UInt8 → Bool} (hB : B < w.heap.size) (c1 : w.cell? ⟨B, 0, none⟩ = some v1) (c2 : w.cell? ⟨B, 1, none⟩ = some v2) (a1 : Asks v1 p1 w) (a2 : Asks v2 p2 w) :
    AskRow w B [(v1, p1), (v2, p2)] :=
  ⟨hB, fun j hj => match j, hj with
    | 0, _ => ⟨c1, a1⟩
    | 1, _ => ⟨c2, a2⟩
    | k + 2, h => absurd h (by simp)⟩
theorem AskRow.three {w : World} {B : Nat} {v1 v2 v3 : Value} {p1 p2 p3 : UInt8 → Bool} (hB : B < w.heap.size) (c1 : w.cell? ⟨B, 0, none⟩ = some v1) (c2 : w.cell? ⟨B, 1, none⟩ = some v2) (c3 : w.cell? ⟨B, 2, none⟩ = some v3) (a1 : Asks v1 p1 w) (a2 : Asks v2 p2 w) (a3 : Asks v3 p3 w) :
    AskRow w B [(v1, p1), (v2, p2), (v3, p3)] :=
  ⟨hB, fun j hj => match j, hj with
    | 0, _ => ⟨c1, a1⟩
    | 1, _ => ⟨c2, a2⟩
    | 2, _ => ⟨c3, a3⟩
    | k + 3, h => absurd h (by simp)⟩

set_option maxRecDepth 100000 in
theorem both_calls (w : World) : Calls Tryz.prog 235 #[] w (Makes5 both5 w) := by
  have HC := Lib.hid (letter_calls w)
  go_enter Tryz.func235, Tryz.ntmps235
  go_wp2_with fail
  with_reducible refine HC.out.mono ?_
  rintro e w1 ⟨g1, lb1, rfl, ha, hb⟩
  have HA1 := Lib.hid ha
  have HB1 := Lib.hid hb
  have HC2 := Lib.hid (digit_calls w1)
  clear ha hb HC
  go_wp2_with fail
  with_reducible refine HC2.out.mono ?_
  rintro e w2 ⟨g2, lb2, rfl, ha, hb⟩
  have HA2 := Lib.hid ha
  have HA1' := Lib.hid (HA1.out.later hb)
  have HB2 := Lib.hid (below_next HB1.out hb)
  clear ha hb HC2 HA1 HB1
  go_wp2_with fail
  have bl := below_alloc (Below.refl w2.heap.size w2) (.cells #[.func (.func g1) #[] lb1, .func (.func g2) #[] lb2] 230)
  refine (either_calls _ 2 _ [(_, letter5), (_, digit5)] _ rfl (by omega) (AskRow.two (by simp) (by simp) (by simp) (HA1'.out.later bl) (HA2.out.later bl))).mono ?_
  rintro e w3 ⟨g, lb, rfl, ha, hb⟩
  have HA := Lib.hid (ha.like (p' := both5) fun x => by simp [both5])
  have HB := Lib.hid (below_next (below_next HB2.out bl) hb)
  clear ha hb bl
  go_wp2
  go_ret
  exact ⟨g, lb, rfl, HA.out, HB.out⟩

set_option maxRecDepth 100000 in
theorem sign_calls (w : World) : Calls Tryz.prog 238 #[] w (Makes5 sign5 w) := by
  have HC := Lib.hid (both_calls w)
  go_enter Tryz.func238, Tryz.ntmps238
  go_wp2_with fail
  with_reducible refine HC.out.mono ?_
  rintro e w1 ⟨g1, lb1, rfl, ha, hb⟩
  have HA1 := Lib.hid ha
  have HB1 := Lib.hid hb
  have HC2 := Lib.hid (within_int 45 45 45 45 rfl rfl w1)
  clear ha hb HC
  go_wp2_with fail
  with_reducible refine HC2.out.mono ?_
  rintro e w2 ⟨g2, lb2, rfl, ha, hb⟩
  have HA2 := Lib.hid ha
  have HA1' := Lib.hid (HA1.out.later hb)
  have HB2 := Lib.hid (below_next HB1.out hb)
  have HC3 := Lib.hid (within_int 46 46 46 46 rfl rfl w2)
  clear ha hb HC2 HA1 HB1
  go_wp2_with fail
  with_reducible refine HC3.out.mono ?_
  rintro e w3 ⟨g3, lb3, rfl, ha, hb⟩
  have HA3 := Lib.hid ha
  have HA1 := Lib.hid (HA1'.out.later hb)
  have HA2' := Lib.hid (HA2.out.later hb)
  have HB3 := Lib.hid (below_next HB2.out hb)
  clear ha hb HC3 HA1' HA2 HB2
  go_wp2_with fail
  have bl := below_alloc (Below.refl w3.heap.size w3) (.cells #[.func (.func g1) #[] lb1, .func (.func g2) #[] lb2, .func (.func g3) #[] lb3] 230)
  refine (either_calls _ 3 _ [(_, both5), (_, inR 45 45), (_, inR 46 46)] _ rfl (by omega) (AskRow.three (by simp) (by simp) (by simp) (by simp) (HA1.out.later bl) (HA2'.out.later bl) (HA3.out.later bl))).mono ?_
  rintro e w4 ⟨g, lb, rfl, ha, hb⟩
  have HA := Lib.hid (ha.like (p' := sign5) fun x => by simp [sign5, Bool.or_assoc])
  have HB := Lib.hid (below_next (below_next HB3.out bl) hb)
  clear ha hb bl
  go_wp2
  go_ret
  exact ⟨g, lb, rfl, HA.out, HB.out⟩

def bt5 (s : ByteArray) (k : Nat) : Int := if h : k < s.size then ((s[k]'h).toNat : Int) else 0

set_option maxRecDepth 100000 in
theorem every_calls (s : ByteArray) (g : Nat) (lb : Array Value) (p : UInt8 → Bool) (w : World) (hs : s.size ≤ 9223372036854775807) (ha : Asks (.func (.func g) #[] lb) p w) :
    Calls Tryz.prog 237 #[.string s, .func (.func g) #[] lb] w fun e w' => e = .returned (.bool (s.data.toList.all p)) ∧ ∃ q, w' = w.drewN q := by
  obtain ⟨g', lb', hv, eg, hp⟩ := ha
  obtain ⟨rfl, rfl⟩ : g' = g ∧ lb' = lb := by simpa using hv.symm
  clear hv
  have HP : Hid (∀ (q : Nat) (x : UInt8), Calls Tryz.prog g' (#[encB x] ++ lb') (w.drewN q) fun e w' => e = .returned (.bool (p x)) ∧ ∃ q', w' = (w.drewN q).drewN q') := fun q x => hp (w.drewN q) x (below_drewN (Below.refl _ _) q)
  clear hp
  generalize hn : s.size = n at *
  obtain ⟨r, hr⟩ : ∃ r, r = s.data.toList.all p := ⟨_, rfl⟩
  rw [← hr]
  have HR := Lib.hid hr
  clear hr
  go_enter Tryz.func237, Tryz.ntmps237
  go_wp2
  go_loopg [5, 8] n (fun gg _ s8 wr => ∃ kk q : Nat, kk ≤ n ∧ n - kk ≤ gg ∧ s8 = .int .i64 kk ∧ wr = w.drewN q ∧ Hid (∀ j (h : j < s.size), j < kk → p s[j] = true))
  case atStart => exact ⟨0, 0, Nat.zero_le _, by omega, rfl, rfl, fun j _ hj => absurd hj (Nat.not_lt_zero _)⟩
  case round =>
    obtain ⟨kk, q, hkk, hg, rfl, rfl, A⟩ := hrel
    by_cases hlt : kk < n
    · have hltz : (kk : Int) < (n : Int) := by omega
      have hk : kk < s.size := hn ▸ hlt
      have hx : ∀ (h : kk < s.size), ((s[kk]'h).toNat : Int) = bt5 s kk := fun h => by unfold bt5; rw [dif_pos h]
      have hcall : Calls Tryz.prog g' (#[Value.int .u8 (bt5 s kk)] ++ lb') (w.drewN q) (fun e w' => e = .returned (.bool (p s[kk])) ∧ ∃ q', w' = (w.drewN q).drewN q') := by rw [← hx hk]; exact HP.out q s[kk]
      cases hq : p s[kk] with
      | true =>
        rw [hq] at hcall
        have HC := Lib.hid hcall
        have HQ := Lib.hid hq
        clear hq hcall
        go_wp2_with (go_at_fn g'; refine HC.out.mono ?_; rintro e w' ⟨rfl, q', rfl⟩)
        go_roundg (n - (kk + 1))
        case measure => omega
        case rel =>
          refine ⟨kk + 1, _, by omega, by omega, by go_num, rfl, (show Hid _ from fun j h hj => ?_)⟩
          by_cases e : j = kk
          · subst e
            exact HQ.out
          · exact A.out j h (by omega)
      | false =>
        rw [hq] at hcall
        have HC := Lib.hid hcall
        have HQ := Lib.hid hq
        clear hq hcall
        go_wp2_with (go_at_fn g'; refine HC.out.mono ?_; rintro e w' ⟨rfl, q', rfl⟩)
        go_ret
        refine ⟨?_, _, rfl⟩
        have : (s.data.toList.all p) = false := by
          rw [List.all_eq_false]
          exact ⟨s[kk], Array.mem_toList_iff.2 (Array.getElem_mem (xs := s.data) (i := kk) hk), by rw [HQ.out]; simp⟩
        rw [HR.out, this]; rfl
    · have hltz : ¬ (kk : Int) < (n : Int) := by omega
      have : kk = n := by omega
      subst this
      have HN := Lib.hid hn
      clear hn
      go_wp2
      go_ret
      refine ⟨?_, q, rfl⟩
      have : (s.data.toList.all p) = true := by
        rw [List.all_eq_true]
        intro a ha
        obtain ⟨j, hj, rfl⟩ := Array.getElem_of_mem (Array.mem_toList_iff.1 ha)
        exact A.out j hj (by have := HN.out; rw [← this]; exact hj)
      rw [HR.out, this]; rfl
end Go.Proofs.YtclnkboejbnfnaaGreatDoor
