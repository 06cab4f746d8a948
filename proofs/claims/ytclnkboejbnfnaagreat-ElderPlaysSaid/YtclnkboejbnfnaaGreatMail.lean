/-
  Mail and Compare of package name, as plain functions on bytes.
  Conditions: texts are no longer than a text may be; the library's own variable MaxLen holds some number.
-/
import Derived.Test.YtclnkboejbnfnaaGreatFold
import Derived.Test.YtclnkboejbnfnaaGreatNameMath
import Derived.Test.YtclnkboejbnfnaaGreatShelf
namespace Go.Proofs.YtclnkboejbnfnaaGreat
open Go.RowKit

/-- The library's variable MaxLen holds a number. -/
def Len5 (w : World) : Prop := 0 < w.heap.size ∧ ∃ m, w.cell? ⟨0, 0, none⟩ = some (.int .i64 m)
theorem Len5.later {w W : World} (h : Len5 w) (hb : Below w.heap.size w W) : Len5 W :=
  ⟨Nat.lt_of_lt_of_le h.1 hb.size, by obtain ⟨m, hm⟩ := h.2; exact ⟨m, (hb.cell (p := ⟨0, 0, none⟩) h.1).trans hm⟩⟩

/-- What a label is asked for. -/
def lab5 (l : List UInt8) : Bool := labP5 both5 l

theorem dom_pieces (s : ByteArray) : dom5 both5 s.data.toList =
    ((Lib.splitB ⟨#[46]⟩ 0 (Lib.countB s ⟨#[46]⟩) s).all (fun x => lab5 x.data.toList) && decide (2 ≤ Lib.countB s ⟨#[46]⟩ + 1)) := by
  have h1 := Lib.splitB_data ⟨#[46]⟩ 0 (Lib.countB s ⟨#[46]⟩) s
  have h2 : Lib.splitK [46] 0 (Lib.count s.data.toList [46]) s.data.toList = parts5 46 s.data.toList := split_parts 46 _ _ (Nat.le_refl _)
  have h3 : (Lib.splitB ⟨#[46]⟩ 0 (Lib.countB s ⟨#[46]⟩) s).map (·.data.toList) = parts5 46 s.data.toList := h1.trans h2
  have h4 := Lib.splitB_all ⟨#[46]⟩ (by decide) 0 (Lib.countB s ⟨#[46]⟩) s rfl
  unfold dom5
  rw [← h3, ← h4]
  simp [List.all_map, Function.comp_def, lab5]

theorem piece_size (sep : ByteArray) : ∀ (k : Nat) (s : ByteArray) (x : ByteArray), x ∈ Lib.splitB sep 0 k s → x.size ≤ s.size
  | 0, s, x, h => by simp [Lib.splitB] at h; subst h; exact Nat.le_refl _
  | k + 1, s, x, h => by
    unfold Lib.splitB at h
    split at h
    · simp at h; subst h; exact Nat.le_refl _
    · rcases List.mem_cons.1 h with rfl | h
      · simp; exact Nat.min_le_right _ _
      · have := piece_size sep k _ x h
        have e : (s.extract ((Lib.indexB s sep).toNat + sep.size) s.size).size ≤ s.size := by simp
        omega

theorem piece_cell (w : World) (l : List ByteArray) (t : TypeId) (j : Nat) (hj : j < l.length) :
    (w.alloc (.cells (l.map Value.string).toArray t)).cell? ⟨w.heap.size, j, none⟩ = some (.string l[j]) := by
  rw [World.cell?_alloc_at _ _ _ _ rfl]
  simp [hj]

/-- What stands ahead of the first @, what behind it, and whether there is one. -/
def cut5 (l : List UInt8) : List UInt8 × List UInt8 × Bool := Lib.cut (fold5 l) [64]
/-- An address. -/
def mail5 (l : List UInt8) : Bool := decide (l.length ≤ 20) && (cut5 l).2.2 && name5 (cut5 l).1 && dom5 both5 (cut5 l).2.1
/-- The address, folded, or nothing. -/
def mailT (l : List UInt8) : ByteArray := if mail5 l then ⟨(fold5 l).toArray⟩ else ⟨#[]⟩
/-- An address is told, or an error. -/
def Mails5 (b : Bool) (t : ByteArray) (w : World) (e : Ending) (w' : World) : Prop := e = .returned (.tuple #[.string t, .int .i64 (err5 b 11)]) ∧ Below w.heap.size w w'

theorem fold5_length (l : List UInt8) : (fold5 l).length = l.length := by simp [fold5]

theorem cut_lengths (l sep : List UInt8) : (Lib.cut l sep).1.length ≤ l.length ∧ (Lib.cut l sep).2.1.length ≤ l.length := by
  unfold Lib.cut
  split <;> simp
  exact Nat.min_le_right _ _

set_option maxRecDepth 100000 in
theorem compare_calls (a b : ByteArray) (w : World) :
    Calls Tryz.prog 60 #[.string a, .string b] w fun e w' => e = .returned (.int .i64 (Lib.compareBytes a.data.toList b.data.toList)) ∧ w' = w := by
  have HC := Lib.hid (Tryz.strings_Compare a b w)
  generalize Lib.compareBytes a.data.toList b.data.toList = r at *
  go_enter Tryz.func60, Tryz.ntmps60
  go_wp2_with fail
  with_reducible refine HC.out.mono ?_
  rintro e w1 ⟨rfl, rfl⟩
  go_wp2
  go_ret
  exact ⟨rfl, rfl⟩
end Go.Proofs.YtclnkboejbnfnaaGreat
