/-
  A reply's bytes: the code's Put and the document's.
  Conditions: an error below 256; at most 65535 texts of at most 65535 bytes.
-/
import Derived.Test.YtadecmjojnhlnaaOpRep
import Derived.Test.YtadecmjojnhlnaaOpRefT
namespace Go.Proofs.Ytadecmjojnhlnaa
open Go.RowKit

/-- A reply's bytes. -/
def repB14 (k : Nat) (ss : List ByteArray) : List UInt8 := le k 1 ++ rowB (tls14 k ss)
/-- What is asked of the texts. -/
def Txs14 (ss : List ByteArray) : Prop := ss.length ≤ 65535 ∧ ∀ s ∈ ss, s.size ≤ 65535
theorem tls14_ok {k : Int} {ss : List ByteArray} (h : Txs14 ss) : Txs14 (tls14 k ss) := by
  unfold tls14
  split
  · exact h
  · exact ⟨Nat.zero_le _, fun s hs => by cases hs⟩
/-- A reply lies at block B. -/
def RpAt (w : World) (B : Nat) (e : Int) (v : Value) : Prop := w.heap[B]? = some (.cells #[.int .i64 e, v] 34 (0, 0))
section
variable {w w' : World} {B : Nat} {e : Int} {v : Value}
theorem RpAt.lt (h : RpAt w B e v) : B < w.heap.size := (Array.getElem?_eq_some_iff.1 h).1
theorem RpAt.c0 (h : RpAt w B e v) : w.cell? ⟨B, 0, none⟩ = some (.int .i64 e) := by rw [cell_of_row w B 0 _ _ (0, 0) h]; rfl
theorem RpAt.c1 (h : RpAt w B e v) : w.cell? ⟨B, 1, none⟩ = some v := by rw [cell_of_row w B 1 _ _ (0, 0) h]; rfl
theorem RpAt.fr (h : RpAt w B e v) (i : Nat) : w.frozen? ⟨B, i, none⟩ = false := by unfold RpAt at h; simp [World.frozen?, h]
theorem RpAt.later (h : RpAt w B e v) {n : Nat} (hn : B < n) (hb : Below n w w') : RpAt w' B e v := (hb.block B hn).trans h
theorem RpAt.below (h : RpAt w B e v) (hb : Below w.heap.size w w') : RpAt w' B e v := h.later h.lt hb
theorem RpAt.turns {S : Nat → Prop} (h : RpAt w B e v) (ht : Turns S w w') (hn : ¬ S B) : RpAt w' B e v := (ht.block B h.lt hn).trans h
theorem RpAt.far (h : RpAt w B e v) {p : Addr} (hp : B ≠ p.block) (u : Value) : RpAt (w.setCell p u) B e v := (Below.heap_setCell w p u B hp).trans h
theorem RpAt.set1 (h : RpAt w B e v) (u : Value) : RpAt (w.setCell ⟨B, 1, none⟩ u) B e u := by
  unfold RpAt at h ⊢; simp [World.setCell, Array.getElem?_modify, h]
theorem RpAt.setAll (h : RpAt w B e v) (e' : Int) (u : Value) : RpAt ((w.setCell ⟨B, 0, none⟩ (.int .i64 e')).setCell ⟨B, 1, none⟩ u) B e' u := by
  unfold RpAt at h ⊢; simp [World.setCell, Array.getElem?_modify, h]
end
theorem rowB_len14 {ss : List ByteArray} (h : ∀ s ∈ ss, s.size ≤ 65535) (hl : ss.length ≤ 65535) : (rowB ss).length ≤ 4294967299 := by
  have := textsB_take_length ss ss.length h hl
  rw [List.take_length] at this
  simp only [rowB, List.length_append, le_length]
  omega
theorem NW14.drew {w w1 : World} {B : Nat} {bs : List UInt8} (h : NW14 w B bs w1) : NW14 w B bs w1.drew := by
  obtain ⟨hB, ⟨v, hw, hv⟩, ht⟩ := h
  exact ⟨hB, ⟨v, hw, hv⟩, ht.drew⟩

set_option maxRecDepth 100000 in
set_option maxHeartbeats 1000000 in
theorem Put14_calls (k : Nat) (A : Option Addr) (c : Nat) (ss : List ByteArray) (w : World) (hk : k < 256) (hr : RdS w A ss) (ht : Txs14 ss) (hc : ss.length ≤ c) (hm : c ≤ 9223372036854775807) :
    Calls Try.prog 39 #[.agg #[.int .i64 k, .slice A ss.length c]] w (Told14 w (repB14 k ss)) := by
  obtain ⟨A', c', htd, hr', hac⟩ := told_of14 k A c ss w hr
  have hok := tls14_ok (k := k) ht
  have hcc : (tls14 k ss).length ≤ c' ∧ c' ≤ 9223372036854775807 := by
    rcases hac with ⟨_, rfl⟩ | ⟨h1, rfl⟩
    · have : (tls14 k ss).length ≤ ss.length := by unfold tls14; split; exact Nat.le_refl _; exact Nat.zero_le _
      omega
    · refine ⟨?_, Nat.zero_le _⟩
      by_cases he : tls14 k ss = []
      · rw [he]; exact Nat.le_refl _
      · obtain ⟨b, off, e, _⟩ := hr' he
        rw [h1] at e; cases e
  have hb1 := alloc14 (Below.refl _ w) (.cells #[.int .i64 (k : Int), .slice A ss.length c] 34)
  have ha1 : RpAt (w.alloc (.cells #[.int .i64 (k : Int), .slice A ss.length c] 34)) w.heap.size k (.slice A ss.length c) := heap_alloc_new w _
  obtain ⟨w1, hw1⟩ : ∃ w1, w1 = w.alloc (.cells #[.int .i64 (k : Int), .slice A ss.length c] 34) := ⟨_, rfl⟩
  have hs1 : w1.heap.size = w.heap.size + 1 := by rw [hw1]; simp
  rw [← hw1] at hb1 ha1
  have HROW : Hid (∀ W, NW14 w1 (w.heap.size + 1) (le k 1) W → Calls Try.prog 50 #[.pointer (some ⟨w.heap.size + 1, 0, none⟩), .slice A' (tls14 k ss).length c'] W (Grows14 w1 W (w.heap.size + 1) (repB14 k ss))) := fun W hn =>
    hn.row A' (tls14 k ss).length c' (tls14 k ss) hcc.1 hcc.2 (by have := hok.1; omega) ((hr'.later14 hb1).later14 hn.2.2) (fun hne a ha => by
      obtain ⟨b, off, e, hb, _⟩ := hr' hne
      rw [e] at ha
      injection ha with ha
      rw [← ha, hs1]
      show b < _
      omega) hok.2 (by rw [le_length]; omega)
  have HBYT : Hid (∀ W, NW14 w1 (w.heap.size + 1) [] W → Calls Try.prog 49 #[.pointer (some ⟨w.heap.size + 1, 0, none⟩), .int .u8 k] W (Grows14 w1 W (w.heap.size + 1) (le k 1))) := fun W hn => by
    have := hn.byte (k : Int) k rfl hk (by simp)
    rwa [List.nil_append] at this
  have hlen : (repB14 k ss).length ≤ 1000000 ∨ True := .inr trivial
  have HTD := Lib.hid htd
  have hz := NW14.zero w1
  rw [hs1, hw1] at hz
  rw [← hw1] at hz
  have HZ : Hid (NW14 w1 (w.heap.size + 1) [] ((w.alloc (.cells #[.int .i64 (k : Int), .slice A ss.length c] 34)).alloc (.cells #[.slice none 0 0] 73)).drew) := by rw [← hw1]; exact hz.drew
  have HCE : Hid (∀ W B bs, NW14 w1 B bs W → W.cell? ⟨w.heap.size, 0, none⟩ = some (.int .i64 k) ∧ W.cell? ⟨w.heap.size, 1, none⟩ = some (.slice A ss.length c)) := fun W B bs hn => by
    have := ha1.later (by omega) hn.2.2
    exact ⟨this.c0, this.c1⟩
  have HB1 := Lib.hid hb1
  have hcv : IntKind.u8.wrap (k : Int) = k := by rw [IntKind.wrap_u8']; omega
  have hcw : (k : Int) % 256 = k := by omega
  have HBYS : Hid (∀ W, NW14 w1 (w.heap.size + 1) (repB14 k ss) W → Calls Try.prog 28 #[.pointer (some ⟨w.heap.size + 1, 0, none⟩)] W (Told14 w1 (repB14 k ss))) := fun W hn => by
    obtain ⟨hB, ⟨v, hw, hv⟩, ht⟩ := hn
    have hl : (repB14 k ss).length ≤ 1099511627776 := by
      have := rowB_len14 hok.2 hok.1
      unfold repB14
      rw [List.length_append, le_length]
      omega
    exact (bytes_calls _ v _ W hw hl).mono fun e w' ⟨v', he, ho, hb, ht'⟩ => ⟨v', he, ho, fun k hk => Nat.le_trans ht.size (hb k hk), next14 ht (still14 ht')⟩
  clear htd hr' hac hok hcc hb1 ha1 hw1 hr ht hc hm hz hlen hk
  generalize repB14 k ss = out at *
  generalize (tls14 k ss).length = m at *
  generalize ss.length = n at *
  go_enter Try.func39, Try.ntmps39
  go_wp2
  have HN := HZ
  clear HZ
  go_region_with (first
    | (go_at_call 49; (with_reducible refine (HBYT.out _ HN.out).mono ?_); rintro e W ⟨rfl, hn, _⟩; have hk := HCE.out _ _ _ hn; have k0 := hk.1; have k1 := hk.2; have HN2 := Lib.hid hn; clear HN hn hk; have HN := HN2; clear HN2)
    | (go_at_call 26; (with_reducible refine (HTD.out _).mono ?_); rintro e W ⟨rfl, hb⟩; have hn := HN.out.below hb; have hk := HCE.out _ _ _ hn; have k0 := hk.1; have k1 := hk.2; have HN2 := Lib.hid hn; clear HN hn hk hb; have HN := HN2; clear HN2)
    | (go_at_call 50; (with_reducible refine (HROW.out _ HN.out).mono ?_); rintro e W ⟨rfl, hn, _⟩; have HN2 := Lib.hid hn; clear HN hn; have HN := HN2; clear HN2)
    | (go_at_call 28; (with_reducible refine (HBYS.out _ HN.out).mono ?_); rintro e W ⟨v, rfl, ho, hv, hb⟩; have HO := Lib.hid ho; have HV := Lib.hid hv; have HBZ := Lib.hid hb; obtain ⟨A9, c9, rfl⟩ := owns_shape ho; clear ho hv hb))
  all_goals
    go_wp2
    go_ret
    exact ⟨_, rfl, HO.out, fun k hk => Nat.le_trans HB1.out.size (HV.out k hk), next14 HB1.out HBZ.out⟩

/-- What each operation makes. -/
def YRp14 (n : Nat) (k : Nat) (v : Value) (s1 s2 s3 : ByteArray) : Nat → Value → Prop
  | 0, x => x = .pointer (some ⟨n, 0, none⟩)
  | 1, x => x = .int .i64 k
  | 2, x => x = .int .u64 k
  | 3, x => x = .string s1
  | 4, x => x = .pointer (some ⟨n, 1, none⟩)
  | 5, x => x = v
  | 6, x => x = .string s2
  | 7, x => x = .string s3
  | 8, x => x = .string s3
  | _, _ => True
theorem rrow14_calls (A : Option Addr) (c : Nat) (ss : List ByteArray) (w : World) (hr : RdS w A ss) (ht : Txs14 ss) : Calls Try.prog 56 #[.slice A ss.length c] w (Says14 (.string (tx14 (rowB ss))) w) :=
  (refrow_calls A c ss w hr ht.1 ht.2).mono fun _ _ ⟨he, h⟩ => ⟨he, still14 h⟩
theorem rnum14_calls (k : Nat) (w : World) (hk : k < 256) : Calls Try.prog 44 #[.int .u64 k, .int .i64 1] w (Says14 (.string (tx14 (le k 1))) w) :=
  (num_at k 1 k 1 w rfl rfl (by omega) (by omega)).mono fun _ _ ⟨he, h⟩ => ⟨he, still14 h⟩

end Go.Proofs.Ytadecmjojnhlnaa
