/-
  What the Reader's Byte, Two, Four, Eight, Truth, Text, Raw, Left, Err and End do, and what Of makes.
  Conditions: at most 2^40 bytes.
-/
import Derived.Test.YtkcddihigagknaaRead
namespace Go.Proofs.Ytkcddihigagknaa
open Go.RowKit

theorem Did.rdr {w : World} {B : Nat} {st : St} {w' : World} (h : Did w B st w') : Rdr w' B st := h.1
theorem rnumber_at (B : Nat) (st : St) (si : Int) (size : Nat) (w : World) (h : Rdr w B st) (hl : st.bs.length ≤ 1099511627776) (e : si = size) (hn : size ≤ 8) :
    Calls Try.prog 35 #[.pointer (some ⟨B, 0, none⟩), .int .i64 si] w (Numb .u64 w B (numS st size).1 (numS st size).2) := e ▸ rnumber_calls B st size w h hl hn

set_option maxRecDepth 100000 in
theorem rbyte_calls (B : Nat) (st : St) (w : World) (h : Rdr w B st) (hl : st.bs.length ≤ 1099511627776) :
    Calls Try.prog 29 #[.pointer (some ⟨B, 0, none⟩)] w (Numb .u8 w B (numS st 1).1 (numS st 1).2) := by
  have hx : (numS st 1).2 < 256 := numS_lt st 1
  have HN := Lib.hid (fun si e => rnumber_at B st si 1 w h hl e (by omega))
  generalize (numS st 1).2 = x at *
  go_enter Try.func29, Try.ntmps29
  go_wp2_with fail
  with_reducible refine (HN.out _ (by simp)).mono ?_
  rintro e w1 ⟨rfl, hd⟩
  have HD := Lib.hid hd
  clear hd
  go_wp2
  go_ret
  exact ⟨rfl, HD.out⟩
theorem failS_length (st : St) (e : Int) : (failS st e).bs.length ≤ st.bs.length := by
  unfold failS; split <;> simp
theorem takeS_left (st : St) (n : Nat) : (takeS st n).1.bs.length ≤ st.bs.length := by
  unfold takeS
  split
  · exact failS_length _ _
  · simp
theorem numS_left (st : St) (n : Nat) : (numS st n).1.bs.length ≤ st.bs.length := takeS_left st n

/-- A truth is told. -/
def Truly (w : World) (B : Nat) (st : St) (b : Bool) (e : Ending) (w' : World) : Prop := e = .returned (.bool b) ∧ Did w B st w'
def truthS (st : St) : St × Bool := if 1 < (numS st 1).2 then (failS (numS st 1).1 4, false) else ((numS st 1).1, (numS st 1).2 == 1)

def lengthS (st : St) (most : Int) : St × Nat := if max most 0 < ((numS st 2).2 : Int) then (failS (numS st 2).1 3, 0) else ((numS st 2).1, (numS st 2).2)
theorem lengthS_lt (st : St) (most : Int) : (lengthS st most).2 < 65536 := by
  have : (numS st 2).2 < 65536 := numS_lt st 2
  unfold lengthS; split <;> simp <;> omega
theorem lengthS_left (st : St) (most : Int) : (lengthS st most).1.bs.length ≤ st.bs.length := by
  unfold lengthS
  split
  · exact Nat.le_trans (failS_length _ _) (numS_left st 2)
  · exact numS_left st 2

def textS (st : St) (most : Int) : St × List UInt8 := takeS (lengthS st most).1 (lengthS st most).2
theorem textS_left (st : St) (most : Int) : (textS st most).1.bs.length ≤ st.bs.length := Nat.le_trans (takeS_left _ _) (lengthS_left st most)
/-- A text is told. -/
def Texts (w : World) (B : Nat) (st : St) (l : List UInt8) (e : Ending) (w' : World) : Prop := e = .returned (.string ⟨l.toArray⟩) ∧ Did w B st w'

def rawS (st : St) (n : Int) : St × List UInt8 := takeS st (max n 0).toNat
/-- New bytes are told. -/
def Raws (w : World) (B : Nat) (st : St) (l : List UInt8) (e : Ending) (w' : World) : Prop := ∃ v, e = .returned v ∧ Rd w' v l ∧ (∀ k, v.ownBlock = some k → k ≠ B) ∧ Did w B st w'

theorem next_any (B : Nat) (st : St) (ni : Int) (w : World) (h : Rdr w B st) (hl : st.bs.length ≤ 1099511627776) (hn : 0 ≤ ni) (hm : ni ≤ 9223372036854775807) :
    Calls Try.prog 38 #[.pointer (some ⟨B, 0, none⟩), .int .i64 ni] w (Took w B (takeS st ni.toNat).1 (takeS st ni.toNat).2) := by
  obtain ⟨n, rfl⟩ := Int.eq_ofNat_of_zero_le hn
  rw [Int.toNat_natCast]
  exact next_calls B st n w h hl (by omega)
set_option maxRecDepth 100000 in
theorem rerr_calls (B : Nat) (st : St) (w : World) (h : Rdr w B st) :
    Calls Try.prog 32 #[.pointer (some ⟨B, 0, none⟩)] w fun e w' => e = .returned (.int .i64 st.e) ∧ w = w' := by
  obtain ⟨v, hb, hr⟩ := h
  have c1 : w.cell? ⟨B, 1, none⟩ = some (.int .i64 st.e) := by rw [cell_of_row w B 1 _ _ (0, 0) hb]; rfl
  clear hb hr
  go_enter Try.func32, Try.ntmps32
  go_wp2
  go_ret
  exact ⟨rfl, rfl⟩
def endS (st : St) : Int := if 0 < st.bs.length then 3 else st.e
set_option maxRecDepth 100000 in
theorem rend_calls (B : Nat) (st : St) (w : World) (h : Rdr w B st) :
    Calls Try.prog 14 #[.pointer (some ⟨B, 0, none⟩)] w fun e w' => e = .returned (.int .i64 (endS st)) ∧ w = w' := by
  obtain ⟨v, hb, hr⟩ := h
  have c0 : w.cell? ⟨B, 0, none⟩ = some v := by rw [cell_of_row w B 0 _ _ (0, 0) hb]; rfl
  have c1 : w.cell? ⟨B, 1, none⟩ = some (.int .i64 st.e) := by rw [cell_of_row w B 1 _ _ (0, 0) hb]; rfl
  obtain ⟨A, c, rfl⟩ := hr.shape
  clear hb hr
  have HE : Hid (endS st = if 0 < st.bs.length then 3 else st.e) := rfl
  rw [HE.out]
  clear HE
  generalize st.bs.length = n at *
  by_cases h0 : 0 < n
  · rw [if_pos h0]
    go_enter Try.func14, Try.ntmps14
    go_wp2
    go_ret
    exact ⟨rfl, rfl⟩
  · rw [if_neg h0]
    go_enter Try.func14, Try.ntmps14
    go_wp2
    go_ret
    exact ⟨rfl, rfl⟩

/-- A new Reader. -/
def Made (w : World) (l : List UInt8) (e : Ending) (w' : World) : Prop := ∃ B, w.heap.size ≤ B ∧ e = .returned (.pointer (some ⟨B, 0, none⟩)) ∧ Rdr w' B ⟨l, 0⟩ ∧ Turns (fun _ => False) w w'
set_option maxRecDepth 100000 in
theorem of_calls (u : Value) (l : List UInt8) (w : World) (hu : Rd w u l) (hroom : l.length ≤ 1099511627776) :
    Calls Try.prog 11 #[u] w (Made w l) := by
  have HU := Lib.hid hu
  clear hu
  go_enter Try.func11, Try.ntmps11
  go_wp2_with fail
  with_reducible refine (clone_calls u l w HU.out hroom).mono ?_
  rintro e w1 ⟨v, rfl, ho, hb, ht⟩
  have HF : Hid (Made w l (.returned (.pointer (some ⟨w1.heap.size, 0, none⟩))) (w1.alloc (.cells #[v, .int .i64 0] 62))) := by
    refine ⟨w1.heap.size, ht.size, rfl, ⟨v, heap_alloc_new w1 _, ?_⟩, ht.alloc _⟩
    have ho' := ho.alloc (.cells #[v, .int .i64 0] 62)
    rcases ho.2 with ⟨rfl, h0⟩ | ⟨g, cap, cur, rfl, _, hg, hnc, hcm, _⟩
    · exact .inl ⟨rfl, List.eq_nil_of_length_eq_zero h0⟩
    · have hlt := (Array.getElem?_eq_some_iff.1 hg).1
      refine .inr ⟨g, 0, cap, rfl, hnc, by simpa [maxLen] using hcm, by simp; omega, by omega, ⟨cur, _, (Below.heap_alloc w1 _ g hlt).trans hg⟩, fun j hj => ?_⟩
      have := ho'.cells (g := g) rfl j (.int .u8 (l[j].toNat : Int)) (by simp [cellsOf, List.getElem?_eq_getElem hj])
      rwa [Addr.add_lit] at this
  obtain ⟨A, c, rfl⟩ := owns_shape ho
  clear ho hb ht
  go_wp2
  go_ret
  exact HF.out
end Go.Proofs.Ytkcddihigagknaa
