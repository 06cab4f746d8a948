/-
  A directory of the law's own: what its deeds tell, what stays as it was. The chapter's example holds.
  Conditions: texts are no longer than they may be.
-/
import Derived.Test.YtclnkboejbnfnaaGreatDoorElderAll
namespace Go.Proofs.YtclnkboejbnfnaaGreatDoor
open Go.RowKit Go.Maps Go.Sort Go.Shelf

/-- Rows and variables that are no directory's stay as they were. -/
def Keeps7 (W w' : World) : Prop := ∀ (k : Nat) (c : Array Value) (T : TypeId) (fr : Nat × Nat), W.heap[k]? = some (.cells c T fr) → T ≠ 90 → w'.heap[k]? = some (.cells c T fr)
theorem Keeps7.of_below {W w' : World} (hb : Below W.heap.size W w') : Keeps7 W w' := fun k _ _ _ h _ => (hb.block k (Array.getElem?_eq_some_iff.1 h).1).trans h
theorem Keeps7.trans {a b c : World} (h : Keeps7 a b) (k : Keeps7 b c) : Keeps7 a c := fun i x T fr hi hT => k i x T fr (h i x T fr hi hT) hT
theorem Goes7.keeps {W w' : World} {B : Nat} {p : Option Nat} {L L' : Row7} (hd : Dir7 W B p L) (hg : Goes7 W B p L' w') : Keeps7 W w' := by
  obtain ⟨_, _, _, ht⟩ := hg
  intro k c T fr hk hT
  refine (ht.block k (Array.getElem?_eq_some_iff.1 hk).1 ?_).trans hk
  rintro (rfl | e)
  · rw [hd.blk] at hk
    injection hk with hk
    injection hk with _ h
    exact hT h.symm
  · obtain ⟨es, clock, h1, _⟩ := hd.map k e
    rw [h1] at hk
    cases hk

/-- A directory that has come about since w0, in W; nothing that was there in w0 has turned. -/
def Own7 (w0 W : World) (B : Nat) (L : Row7) : Prop := ∃ p, Dir7 W B p L ∧ w0.heap.size ≤ B ∧ (∀ b, p = some b → w0.heap.size ≤ b) ∧ Below w0.heap.size w0 W
section
variable {w0 W W' : World} {B : Nat} {L : Row7}
theorem Own7.below (h : Own7 w0 W B L) : Below w0.heap.size w0 W := by obtain ⟨_, _, _, _, h⟩ := h; exact h
theorem Own7.few (h : Own7 w0 W B L) : L.length ≤ 12 := by obtain ⟨_, h, _⟩ := h; exact h.few
theorem Own7.rise (h : Own7 w0 W B L) : Rise7 L := by obtain ⟨_, h, _⟩ := h; exact h.rise
theorem Own7.all (h : Own7 w0 W B L) : ∀ q ∈ L, q.1.length ≤ 12 ∧ q.2.length ≤ 12 := by obtain ⟨_, h, _⟩ := h; exact h.all
theorem Own7.later (h : Own7 w0 W B L) (hb : Below W.heap.size W W') : Own7 w0 W' B L := by
  obtain ⟨p, hd, h1, h2, h3⟩ := h
  exact ⟨p, hd.later hb, h1, h2, below_next h3 hb⟩
theorem Own7.goes {L' : Row7} {p : Option Nat} (hd : Dir7 W B p L) (h1 : w0.heap.size ≤ B) (h2 : ∀ b, p = some b → w0.heap.size ≤ b) (h3 : Below w0.heap.size w0 W) (hg : Goes7 W B p L' W') : Own7 w0 W' B L' := by
  obtain ⟨p', hd', hp, ht⟩ := hg
  refine ⟨p', hd', h1, fun b hb => ?_, h3.trans (ht.below_at h3.size ?_)⟩
  · rcases hp b hb with h | h
    · exact h2 b h
    · exact Nat.le_trans h3.size h
  · rintro i (rfl | e)
    · exact h1
    · exact h2 i e
theorem own7_new (w : World) : Own7 w (w.alloc (.cells #[.map none] 90)) w.heap.size [] := ⟨none, dir7_new w, Nat.le_refl _, (fun _ h => nomatch h), below_alloc (Below.refl _ _) _⟩

/-- An error's number is told, the directory has the row L', nothing else has turned. -/
def Deed7 (w0 W : World) (B : Nat) (n : Int) (L' : Row7) (e : Ending) (w' : World) : Prop := e = .returned (.int .i64 n) ∧ Own7 w0 w' B L' ∧ Keeps7 W w'
theorem Own7.create (h : Own7 w0 W B L) (n s : ByteArray) (hn : n.size ≤ 9223372036854775807) (hs : s.size ≤ 9223372036854775807) :
    Calls Tryz.prog 43 #[.pointer (some ⟨B, 0, none⟩), .string n, .string s] W (Deed7 w0 W B (crE L n.data.toList s.data.toList) (crL L n.data.toList s.data.toList)) := by
  obtain ⟨p, hd, h1, h2, h3⟩ := h
  exact (create7_calls B p L n s W hd hn hs).mono fun e w' ⟨he, hg⟩ => ⟨he, Own7.goes hd h1 h2 h3 hg, hg.keeps hd⟩
theorem Own7.sethash (h : Own7 w0 W B L) (n s : ByteArray) (hn : n.size ≤ 9223372036854775807) (hs : s.size ≤ 9223372036854775807) :
    Calls Tryz.prog 69 #[.pointer (some ⟨B, 0, none⟩), .string n, .string s] W (Deed7 w0 W B (seE L n.data.toList s.data.toList) (seL L n.data.toList s.data.toList)) := by
  obtain ⟨p, hd, h1, h2, h3⟩ := h
  exact (sethash7_calls B p L n s W hd hn hs).mono fun e w' ⟨he, hg⟩ => ⟨he, Own7.goes hd h1 h2 h3 hg, hg.keeps hd⟩
theorem Own7.delete (h : Own7 w0 W B L) (n : ByteArray) (hn : n.size ≤ 9223372036854775807) :
    Calls Tryz.prog 68 #[.pointer (some ⟨B, 0, none⟩), .string n] W (Deed7 w0 W B (deE L n.data.toList) (deL L n.data.toList)) := by
  obtain ⟨p, hd, h1, h2, h3⟩ := h
  exact (delete7_calls B p L n W hd hn).mono fun e w' ⟨he, hg⟩ => ⟨he, Own7.goes hd h1 h2 h3 hg, hg.keeps hd⟩
theorem Own7.len (h : Own7 w0 W B L) : Calls Tryz.prog 17 #[.pointer (some ⟨B, 0, none⟩)] W fun e w' => e = .returned (.int .i64 L.length) ∧ w' = W := by
  obtain ⟨p, hd, _⟩ := h
  exact len7_calls B p L W hd
theorem Own7.list (h : Own7 w0 W B L) (pre : ByteArray) (hp : pre.size ≤ 9223372036854775807) :
    Calls Tryz.prog 36 #[.pointer (some ⟨B, 0, none⟩), .string pre] W fun e w' => ∃ v, e = .returned (.tuple #[v, .int .i64 (liE pre.data.toList)]) ∧ Txs7 w' v (liL L pre.data.toList) ∧ Below W.heap.size W w' := by
  obtain ⟨p, hd, _⟩ := h
  exact list7_calls B p L pre W hd hp
theorem Own7.lookup (h : Own7 w0 W B L) (n : ByteArray) (hn : n.size ≤ 9223372036854775807) :
    Calls Tryz.prog 34 #[.pointer (some ⟨B, 0, none⟩), .string n] W fun e w' => e = .returned (.tuple #[.string (tx7 (loS L n.data.toList)), .int .i64 (deE L n.data.toList)]) ∧ Below W.heap.size W w' := by
  obtain ⟨p, hd, _⟩ := h
  exact lookup7_calls B p L n W hd hn
theorem Own7.allu (h : Own7 w0 W B L) : Calls Tryz.prog 15 #[.pointer (some ⟨B, 0, none⟩)] W fun e w' => ∃ v, e = .returned v ∧ Users7 L W.heap.size w' v ∧ Below W.heap.size W w' := by
  obtain ⟨p, hd, _⟩ := h
  exact all7_calls B p L W hd
end

def bob7 : List UInt8 × List UInt8 := ([98, 111, 98], [49])
def ann7 : List UInt8 × List UInt8 := ([97, 110, 110], [50])
theorem ex7_1 : crE [] [98, 111, 98] [49] = 0 ∧ crL [] [98, 111, 98] [49] = [bob7] := by decide +kernel
theorem ex7_2 : crE [bob7] [97, 110, 110] [50] = 0 ∧ crL [bob7] [97, 110, 110] [50] = [ann7, bob7] := by decide +kernel
theorem ex7_3 : liE [] = 0 ∧ liL [ann7, bob7] [] = [[97, 110, 110], [98, 111, 98]] := by decide +kernel

set_option maxRecDepth 100000 in
theorem lives7_calls (w : World) : Calls Tryz.prog 11 #[] w (Tells5 true w) := by
  have HN := Lib.hid (new7_calls w)
  have HC1 : Hid (∀ W B, Own7 w W B [] → Calls Tryz.prog 43 #[.pointer (some ⟨B, 0, none⟩), .string ⟨#[98, 111, 98]⟩, .string ⟨#[49]⟩] W (Deed7 w W B 0 [bob7])) := fun W B h => by
    have := h.create ⟨#[98, 111, 98]⟩ ⟨#[49]⟩ (by decide) (by decide)
    rw [show crE [] (ByteArray.mk #[98, 111, 98]).data.toList (ByteArray.mk #[49]).data.toList = 0 from ex7_1.1, show crL [] (ByteArray.mk #[98, 111, 98]).data.toList (ByteArray.mk #[49]).data.toList = [bob7] from ex7_1.2] at this
    exact this
  have HC2 : Hid (∀ W B, Own7 w W B [bob7] → Calls Tryz.prog 43 #[.pointer (some ⟨B, 0, none⟩), .string ⟨#[97, 110, 110]⟩, .string ⟨#[50]⟩] W (Deed7 w W B 0 [ann7, bob7])) := fun W B h => by
    have := h.create ⟨#[97, 110, 110]⟩ ⟨#[50]⟩ (by decide) (by decide)
    rw [show crE [bob7] (ByteArray.mk #[97, 110, 110]).data.toList (ByteArray.mk #[50]).data.toList = 0 from ex7_2.1, show crL [bob7] (ByteArray.mk #[97, 110, 110]).data.toList (ByteArray.mk #[50]).data.toList = [ann7, bob7] from ex7_2.2] at this
    exact this
  have HC3 : Hid (∀ W B, Own7 w W B [ann7, bob7] → Calls Tryz.prog 36 #[.pointer (some ⟨B, 0, none⟩), .string ⟨#[]⟩] W fun e w' => ∃ v, e = .returned (.tuple #[v, .int .i64 0]) ∧ Txs7 w' v [[97, 110, 110], [98, 111, 98]] ∧ Below W.heap.size W w') := fun W B h => by
    have := h.list ⟨#[]⟩ (by decide)
    rw [show liE (ByteArray.mk #[]).data.toList = 0 from ex7_3.1, show liL [ann7, bob7] (ByteArray.mk #[]).data.toList = [[97, 110, 110], [98, 111, 98]] from ex7_3.2] at this
    exact this
  go_enter Tryz.func11, Tryz.ntmps11
  go_wp2_with fail
  with_reducible refine HN.out.mono ?_
  rintro e w1 ⟨rfl, rfl⟩
  have HO := Lib.hid (own7_new w)
  generalize w.alloc (.cells #[.map none] 90) = w1 at *
  generalize hB : w.heap.size = B at *
  have HB := Lib.hid hB
  clear hB HN
  go_wp2_with fail
  with_reducible refine (HC1.out w1 B HO.out).mono ?_
  rintro e w2 ⟨rfl, ho, _⟩
  have HO2 := Lib.hid ho
  clear ho HC1 HO
  go_wp2_with fail
  with_reducible refine (HC2.out w2 B HO2.out).mono ?_
  rintro e w3 ⟨rfl, ho, _⟩
  have HO3 := Lib.hid ho
  clear ho HC2 HO2
  go_wp2_with fail
  with_reducible refine (HC3.out w3 B HO3.out).mono ?_
  rintro e w4 ⟨v, rfl, ⟨A, c, rfl, hcs⟩, hb⟩
  have HO4 := Lib.hid (HO3.out.later hb).below
  obtain ⟨g, rfl, hcell⟩ := hcs 0 (by decide)
  have hcell' : w4.cell? ⟨g, 0, none⟩ = some (.string ⟨#[97, 110, 110]⟩) := hcell
  clear hcell hcs hb HC3 HO3

  go_wp2
  go_ret
  exact ⟨rfl, HO4.out⟩
end Go.Proofs.YtclnkboejbnfnaaGreatDoor
