/-
  What the Reader's Byte, Two, Four, Eight, Truth, Text, Raw, Left, Err and End do, and what Of makes.
  Conditions: at most 2^40 bytes.
-/
import Derived.Test.YtnfiaibfhfpmjaaRead
namespace Go.Proofs.Ytnfiaibfhfpmjaa
open Go.RowKit

theorem Did.rdr {w : World} {B : Nat} {st : St} {w' : World} (h : Did w B st w') : Rdr w' B st := h.1
theorem rnumber_at (B : Nat) (st : St) (si : Int) (size : Nat) (w : World) (h : Rdr w B st) (hl : st.bs.length ≤ 1099511627776) (e : si = size) (hn : size ≤ 8) :
    Calls Try.prog 35 #[.pointer (some ⟨B, 0, none⟩), .int .i64 si] w (Numb .u64 w B (numS st size).1 (numS st size).2) := e ▸ rnumber_calls B st size w h hl hn

theorem rbyte_calls (B : Nat) (st : St) (w : World) (h : Rdr w B st) (hl : st.bs.length ≤ 1099511627776) :
    Calls Try.prog 25 #[.pointer (some ⟨B, 0, none⟩)] w (Numb .u8 w B (numS st 1).1 (numS st 1).2) := by
  have hx : (numS st 1).2 < 256 := numS_lt st 1
  have HN := Lib.hid (fun si e => rnumber_at B st si 1 w h hl e (by omega))
  generalize (numS st 1).2 = x at *
  go_enter Try.func25, Try.ntmps25
  go_wp2_with fail
  with_reducible refine (HN.out _ (by simp)).mono ?_
  rintro e w1 ⟨rfl, hd⟩
  have HD := Lib.hid hd
  clear hd
  go_wp2
  go_ret
  exact ⟨rfl, HD.out⟩
theorem rfour_calls (B : Nat) (st : St) (w : World) (h : Rdr w B st) (hl : st.bs.length ≤ 1099511627776) :
    Calls Try.prog 27 #[.pointer (some ⟨B, 0, none⟩)] w (Numb .u32 w B (numS st 4).1 (numS st 4).2) := by
  have hx : (numS st 4).2 < 4294967296 := numS_lt st 4
  have HN := Lib.hid (fun si e => rnumber_at B st si 4 w h hl e (by omega))
  generalize (numS st 4).2 = x at *
  go_enter Try.func27, Try.ntmps27
  go_wp2_with fail
  with_reducible refine (HN.out _ (by simp)).mono ?_
  rintro e w1 ⟨rfl, hd⟩
  have HD := Lib.hid hd
  clear hd
  go_wp2
  go_ret
  exact ⟨rfl, HD.out⟩
theorem failS_length (st : St) (e : Int) : (failS st e).bs.length ≤ st.bs.length := by
  unfold failS; split <;> simp
theorem takeS_left (st : St) (n : Nat) : (takeS st n).1.bs.length ≤ st.bs.length := by
  unfold takeS
  split
  · exact failS_length _ _
  · simp
theorem numS_left (st : St) (n : Nat) : (numS st n).1.bs.length ≤ st.bs.length := takeS_left st n

/-- A truth is told. -/
def Truly (w : World) (B : Nat) (st : St) (b : Bool) (e : Ending) (w' : World) : Prop := e = .returned (.bool b) ∧ Did w B st w'
def truthS (st : St) : St × Bool := if 1 < (numS st 1).2 then (failS (numS st 1).1 4, false) else ((numS st 1).1, (numS st 1).2 == 1)

def lengthS (st : St) (most : Int) : St × Nat := if max most 0 < ((numS st 2).2 : Int) then (failS (numS st 2).1 3, 0) else ((numS st 2).1, (numS st 2).2)
theorem lengthS_lt (st : St) (most : Int) : (lengthS st most).2 < 65536 := by
  have : (numS st 2).2 < 65536 := numS_lt st 2
  unfold lengthS; split <;> simp <;> omega
theorem lengthS_left (st : St) (most : Int) : (lengthS st most).1.bs.length ≤ st.bs.length := by
  unfold lengthS
  split
  · exact Nat.le_trans (failS_length _ _) (numS_left st 2)
  · exact numS_left st 2

def textS (st : St) (most : Int) : St × List UInt8 := takeS (lengthS st most).1 (lengthS st most).2
theorem textS_left (st : St) (most : Int) : (textS st most).1.bs.length ≤ st.bs.length := Nat.le_trans (takeS_left _ _) (lengthS_left st most)
/-- A text is told. -/
def Texts (w : World) (B : Nat) (st : St) (l : List UInt8) (e : Ending) (w' : World) : Prop := e = .returned (.string ⟨l.toArray⟩) ∧ Did w B st w'

def rawS (st : St) (n : Int) : St × List UInt8 := takeS st (max n 0).toNat
/-- New bytes are told. -/
def Raws (w : World) (B : Nat) (st : St) (l : List UInt8) (e : Ending) (w' : World) : Prop := ∃ v, e = .returned v ∧ Rd w' v l ∧ (∀ k, v.ownBlock = some k → k ≠ B) ∧ Did w B st w'

theorem next_any (B : Nat) (st : St) (ni : Int) (w : World) (h : Rdr w B st) (hl : st.bs.length ≤ 1099511627776) (hn : 0 ≤ ni) (hm : ni ≤ 9223372036854775807) :
    Calls Try.prog 36 #[.pointer (some ⟨B, 0, none⟩), .int .i64 ni] w (Took w B (takeS st ni.toNat).1 (takeS st ni.toNat).2) := by
  obtain ⟨n, rfl⟩ := Int.eq_ofNat_of_zero_le hn
  rw [Int.toNat_natCast]
  exact next_calls B st n w h hl (by omega)
theorem rraw_calls (B : Nat) (st : St) (n : Int) (w : World) (h : Rdr w B st) (hl : st.bs.length ≤ 1099511627776) (hm : n ≤ 9223372036854775807) :
    Calls Try.prog 26 #[.pointer (some ⟨B, 0, none⟩), .int .i64 n] w (Raws w B (rawS st n).1 (rawS st n).2) := by
  have HN := Lib.hid (fun ni e => next_any B st ni w h hl e)
  have hlen : (rawS st n).2.length ≤ 1099511627776 := by
    unfold rawS takeS
    split
    · simp
    · simp only [List.length_take]; omega
  have HRS : Hid (rawS st n = takeS st (max n 0).toNat) := rfl
  have HLEN := Lib.hid hlen
  clear hlen
  by_cases h0 : 0 ≤ n
  · have e0 : max n 0 = n := by omega
    rw [e0] at HRS
    rw [HRS.out] at HLEN ⊢
    clear e0
    go_enter Try.func26, Try.ntmps26
    go_wp2_with fail
    with_reducible refine (HN.out n h0 hm).mono ?_
    rintro e w1 ⟨v, rfl, hr, hd⟩
    have HD := Lib.hid hd
    have HR := Lib.hid hr
    clear hr hd HN
    go_wp2_with fail
    have HR2 := Lib.hid HR.out.rd
    with_reducible refine (clone_calls v _ w1 HR2.out HLEN.out).mono ?_
    rintro e w2 ⟨v2, rfl, ho, hb, ht⟩
    have HF : Hid (Raws w B (takeS st n.toNat).1 (takeS st n.toNat).2 (.returned v2) w2) := ⟨v2, rfl, Rd.of_own ho, fun k hk he => by have := hb k hk; have := HD.out.rdr.lt; omega, HD.out.rdr.still ht, HD.out.2.next ht (fun _ _ f => f.elim)⟩
    obtain ⟨A, c, rfl⟩ := owns_shape ho
    clear ho hb ht HD HR HR2
    go_wp2
    go_ret
    exact HF.out
  · have e0 : max n 0 = 0 := by omega
    rw [e0] at HRS
    rw [HRS.out] at HLEN ⊢
    clear e0
    go_enter Try.func26, Try.ntmps26
    go_wp2_with fail
    with_reducible refine (HN.out 0 (by omega) (by omega)).mono ?_
    rintro e w1 ⟨v, rfl, hr, hd⟩
    have HD := Lib.hid hd
    have HR := Lib.hid hr
    clear hr hd HN
    go_wp2_with fail
    have HR2 := Lib.hid HR.out.rd
    with_reducible refine (clone_calls v _ w1 HR2.out HLEN.out).mono ?_
    rintro e w2 ⟨v2, rfl, ho, hb, ht⟩
    have HF : Hid (Raws w B (takeS st (0 : Int).toNat).1 (takeS st (0 : Int).toNat).2 (.returned v2) w2) := ⟨v2, rfl, Rd.of_own ho, fun k hk he => by have := hb k hk; have := HD.out.rdr.lt; omega, HD.out.rdr.still ht, HD.out.2.next ht (fun _ _ f => f.elim)⟩
    obtain ⟨A, c, rfl⟩ := owns_shape ho
    clear ho hb ht HD HR HR2
    go_wp2
    go_ret
    exact HF.out

def endS (st : St) : Int := if 0 < st.bs.length then 3 else st.e
/-- A new Reader. -/
def Made (w : World) (l : List UInt8) (e : Ending) (w' : World) : Prop := ∃ B, w.heap.size ≤ B ∧ e = .returned (.pointer (some ⟨B, 0, none⟩)) ∧ Rdr w' B ⟨l, 0⟩ ∧ Turns (fun _ => False) w w'
theorem of_calls (u : Value) (l : List UInt8) (w : World) (hu : Rd w u l) (hroom : l.length ≤ 1099511627776) :
    Calls Try.prog 24 #[u] w (Made w l) := by
  have HU := Lib.hid hu
  clear hu
  go_enter Try.func24, Try.ntmps24
  go_wp2_with fail
  with_reducible refine (clone_calls u l w HU.out hroom).mono ?_
  rintro e w1 ⟨v, rfl, ho, hb, ht⟩
  have HF : Hid (Made w l (.returned (.pointer (some ⟨w1.heap.size, 0, none⟩))) (w1.alloc (.cells #[v, .int .i64 0] 89))) := by
    refine ⟨w1.heap.size, ht.size, rfl, ⟨v, heap_alloc_new w1 _, ?_⟩, ht.alloc _⟩
    have ho' := ho.alloc (.cells #[v, .int .i64 0] 89)
    rcases ho.2 with ⟨rfl, h0⟩ | ⟨g, cap, cur, rfl, _, hg, hnc, hcm, _⟩
    · exact .inl ⟨rfl, List.eq_nil_of_length_eq_zero h0⟩
    · have hlt := (Array.getElem?_eq_some_iff.1 hg).1
      refine .inr ⟨g, 0, cap, rfl, hnc, by simpa [maxLen] using hcm, by simp; omega, by omega, ⟨cur, _, (Below.heap_alloc w1 _ g hlt).trans hg⟩, fun j hj => ?_⟩
      have := ho'.cells (g := g) rfl j (.int .u8 (l[j].toNat : Int)) (by simp [cellsOf, List.getElem?_eq_getElem hj])
      rwa [Addr.add_lit] at this
  obtain ⟨A, c, rfl⟩ := owns_shape ho
  clear ho hb ht
  go_wp2
  go_ret
  exact HF.out
end Go.Proofs.Ytnfiaibfhfpmjaa
