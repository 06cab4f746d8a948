/-
  Get of a reply: of any bytes the reply, or what is wrong first.
  Conditions: bytes of at most 1000.
-/
import Derived.Test.YtadecmjojnhlnaaOpPut
import Derived.Test.YtadecmjojnhlnaaOpMath
import Derived.Test.YtadecmjojnhlnaaReadU
namespace Go.Proofs.Ytadecmjojnhlnaa
open Go.RowKit

/-- The Reader behind the error's number, behind the row, at the end. -/
def gs2_14 (bs : List UInt8) : St := if 18 < (numS ⟨bs, 0⟩ 1).2 then failS (numS ⟨bs, 0⟩ 1).1 4 else (numS ⟨bs, 0⟩ 1).1
def gk14 (bs : List UInt8) : Nat := (numS ⟨bs, 0⟩ 1).2
def gss14 (bs : List UInt8) : List ByteArray := (rowS (gs2_14 bs) 400 400).2
def gs4_14 (bs : List UInt8) : St := if gk14 bs ≠ 0 ∧ gss14 bs ≠ [] then failS (rowS (gs2_14 bs) 400 400).1 4 else (rowS (gs2_14 bs) 400 400).1
def gre14 (bs : List UInt8) : Int := endS (gs4_14 bs)
theorem gs2_left14 (bs : List UInt8) : (gs2_14 bs).bs.length ≤ bs.length := by
  have h2 := numS_left ⟨bs, 0⟩ 1
  have h3 := failS_length (numS ⟨bs, 0⟩ 1).1 4
  unfold gs2_14
  split
  · exact Nat.le_trans h3 h2
  · exact h2
/-- What Get tells. -/
def Got14 (w : World) (bs : List UInt8) (e : Ending) (w' : World) : Prop :=
  (gre14 bs ≠ 0 ∧ e = .returned (.tuple #[.agg #[.int .i64 0, .slice none 0 0], .int .i64 (gre14 bs)]) ∧ Below w.heap.size w w') ∨
  (gre14 bs = 0 ∧ ∃ A c, e = .returned (.tuple #[.agg #[.int .i64 (gk14 bs), .slice A (gss14 bs).length c], .int .i64 0]) ∧ RdS w' A (gss14 bs) ∧ (gss14 bs).length ≤ c ∧ c ≤ 9223372036854775807 ∧ Below w.heap.size w w')
theorem Rdr.setR14 {w : World} {B P : Nat} {st : St} {e : Int} {v : Value} (h : Rdr w B st) (hp : RpAt w P e v) (hne : B ≠ P) (i : Nat) (u : Value) : Rdr (w.setCell ⟨P, i, none⟩ u) B st := by
  refine h.shift14 (S := fun k => k = P) ((Turns.refl (fun k => k = P) w).setCell (p := ⟨P, i, none⟩) (fun _ => rfl) u) hne ?_
  rintro g ⟨cur, fr, hg⟩ rfl
  have := hp.symm.trans hg
  simp at this
theorem cap_own14 {w : World} {A : Option Addr} {c n : Nat} {ss : List Value} (h : w.ownsRow 0 9 1 (.slice A n c) n ss) : n ≤ c ∧ c ≤ 9223372036854775807 := by
  rcases h.2 with ⟨h1, h2⟩ | ⟨g, cap, cur, h1, _, _, h2, h3, _⟩
  · injection h1 with _ _ h3
    subst h3
    omega
  · injection h1 with _ _ h4
    subst h4
    exact ⟨h2, by simpa [maxLen] using h3⟩
theorem sizeRp14 : (Try.prog.info? 34).map (·.size) = some 2 := by kernel_rfl

/-- A Reader and a reply under way, beside what Get will tell. -/
structure Gr14 (w : World) (B P : Nat) (st : St) (e : Int) (v : Value) (W : World) : Prop where
  r : Rdr W B st
  p : RpAt W P e v
  z : RpAt W w.heap.size 0 (.slice none 0 0)
  b : Below w.heap.size w W
theorem Gr14.below {w W W' : World} {B P : Nat} {st : St} {e : Int} {v : Value} (h : Gr14 w B P st e v W) (hb : Below W.heap.size W W') : Gr14 w B P st e v W' :=
  ⟨h.r.still (turns14 hb), h.p.below hb, h.z.below hb, next14 h.b hb⟩
theorem Gr14.did {w W W' : World} {B P : Nat} {st st' : St} {e : Int} {v : Value} (h : Gr14 w B P st e v W) (hB : w.heap.size < B) (hne : B ≠ P) (hd : Did W B st' W') : Gr14 w B P st' e v W' :=
  ⟨hd.1, h.p.turns hd.2 (fun e => hne e.symm), h.z.turns hd.2 (by omega), h.b.trans (hd.2.below_at h.b.size (by rintro i e; omega))⟩
theorem Gr14.set {w W : World} {B P : Nat} {st : St} {e : Int} {v : Value} (h : Gr14 w B P st e v W) (hP : w.heap.size < P) (hne : B ≠ P) (u : Value) : Gr14 w B P st e u (W.setCell ⟨P, 1, none⟩ u) :=
  ⟨h.r.setR14 h.p hne 1 u, h.p.set1 u, h.z.far (by show _ ≠ P; omega) u, h.b.setCell (by show _ ≤ P; omega) u⟩

/-- What each operation makes. -/
def YGt14 (P : Nat) (k : Int) (A : Option Addr) (m c : Nat) (tA : Option Addr) (tm tc : Nat) (b : Bool) : Nat → Value → Prop
  | 0, v => v = .pointer (some ⟨P, 1, none⟩)
  | 1, v => v = .slice A m c
  | 2, v => v = .int .i64 m
  | 3, v => v = .agg #[.int .i64 k, .slice A m c]
  | 4, v => v = .slice tA tm tc
  | 5, v => v = .int .i64 tm
  | 6, v => v = .bool b
  | _, _ => True

end Go.Proofs.Ytadecmjojnhlnaa
