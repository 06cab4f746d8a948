/-
  A reply's bytes: the code's Put and the document's.
  Conditions: an error below 256; at most 65535 texts of at most 65535 bytes.
-/
import Derived.Test.YtacmjmfdhegojaaDoorOpRep
import Derived.Test.YtacmjmfdhegojaaDoorOpRefT
namespace Go.Proofs.YtacmjmfdhegojaaDoor
open Go.RowKit

/-- A reply's bytes. -/
def repB14 (k : Nat) (ss : List ByteArray) : List UInt8 := le k 1 ++ rowB (tls14 k ss)
/-- What is asked of the texts. -/
def Txs14 (ss : List ByteArray) : Prop := ss.length ≤ 65535 ∧ ∀ s ∈ ss, s.size ≤ 65535
theorem tls14_ok {k : Int} {ss : List ByteArray} (h : Txs14 ss) : Txs14 (tls14 k ss) := by
  unfold tls14
  split
  · exact h
  · exact ⟨Nat.zero_le _, fun s hs => by cases hs⟩
/-- A reply lies at block B. -/
def RpAt (w : World) (B : Nat) (e : Int) (v : Value) : Prop := w.heap[B]? = some (.cells #[.int .i64 e, v] 42 (0, 0))
section
variable {w w' : World} {B : Nat} {e : Int} {v : Value}
theorem RpAt.lt (h : RpAt w B e v) : B < w.heap.size := (Array.getElem?_eq_some_iff.1 h).1
theorem RpAt.c0 (h : RpAt w B e v) : w.cell? ⟨B, 0, none⟩ = some (.int .i64 e) := by rw [cell_of_row w B 0 _ _ (0, 0) h]; rfl
theorem RpAt.c1 (h : RpAt w B e v) : w.cell? ⟨B, 1, none⟩ = some v := by rw [cell_of_row w B 1 _ _ (0, 0) h]; rfl
theorem RpAt.fr (h : RpAt w B e v) (i : Nat) : w.frozen? ⟨B, i, none⟩ = false := by unfold RpAt at h; simp [World.frozen?, h]
theorem RpAt.later (h : RpAt w B e v) {n : Nat} (hn : B < n) (hb : Below n w w') : RpAt w' B e v := (hb.block B hn).trans h
theorem RpAt.below (h : RpAt w B e v) (hb : Below w.heap.size w w') : RpAt w' B e v := h.later h.lt hb
theorem RpAt.turns {S : Nat → Prop} (h : RpAt w B e v) (ht : Turns S w w') (hn : ¬ S B) : RpAt w' B e v := (ht.block B h.lt hn).trans h
theorem RpAt.far (h : RpAt w B e v) {p : Addr} (hp : B ≠ p.block) (u : Value) : RpAt (w.setCell p u) B e v := (Below.heap_setCell w p u B hp).trans h
theorem RpAt.set1 (h : RpAt w B e v) (u : Value) : RpAt (w.setCell ⟨B, 1, none⟩ u) B e u := by
  unfold RpAt at h ⊢; simp [World.setCell, Array.getElem?_modify, h]
theorem RpAt.setAll (h : RpAt w B e v) (e' : Int) (u : Value) : RpAt ((w.setCell ⟨B, 0, none⟩ (.int .i64 e')).setCell ⟨B, 1, none⟩ u) B e' u := by
  unfold RpAt at h ⊢; simp [World.setCell, Array.getElem?_modify, h]
end
theorem rowB_len14 {ss : List ByteArray} (h : ∀ s ∈ ss, s.size ≤ 65535) (hl : ss.length ≤ 65535) : (rowB ss).length ≤ 4294967299 := by
  have := textsB_take_length ss ss.length h hl
  rw [List.take_length] at this
  simp only [rowB, List.length_append, le_length]
  omega
theorem NW14.drew {w w1 : World} {B : Nat} {bs : List UInt8} (h : NW14 w B bs w1) : NW14 w B bs w1.drew := by
  obtain ⟨hB, ⟨v, hw, hv⟩, ht⟩ := h
  exact ⟨hB, ⟨v, hw, hv⟩, ht.drew⟩

set_option maxRecDepth 100000 in
set_option maxHeartbeats 1000000 in
theorem Put14_calls (k : Nat) (A : Option Addr) (c : Nat) (ss : List ByteArray) (w : World) (hk : k < 256) (hr : RdS w A ss) (ht : Txs14 ss) (hc : ss.length ≤ c) (hm : c ≤ 9223372036854775807) :
    Calls Tryd.prog 14 #[.agg #[.int .i64 k, .slice A ss.length c]] w (Told14 w (repB14 k ss)) := by
  obtain ⟨A', c', htd, hr', hac⟩ := told_of14 k A c ss w hr
  have hok := tls14_ok (k := k) ht
  have hcc : (tls14 k ss).length ≤ c' ∧ c' ≤ 9223372036854775807 := by
    rcases hac with ⟨_, rfl⟩ | ⟨h1, rfl⟩
    · have : (tls14 k ss).length ≤ ss.length := by unfold tls14; split; exact Nat.le_refl _; exact Nat.zero_le _
      omega
    · refine ⟨?_, Nat.zero_le _⟩
      by_cases he : tls14 k ss = []
      · rw [he]; exact Nat.le_refl _
      · obtain ⟨b, off, e, _⟩ := hr' he
        rw [h1] at e; cases e
  have hb1 := alloc14 (Below.refl _ w) (.cells #[.int .i64 (k : Int), .slice A ss.length c] 42)
  have ha1 : RpAt (w.alloc (.cells #[.int .i64 (k : Int), .slice A ss.length c] 42)) w.heap.size k (.slice A ss.length c) := heap_alloc_new w _
  obtain ⟨w1, hw1⟩ : ∃ w1, w1 = w.alloc (.cells #[.int .i64 (k : Int), .slice A ss.length c] 42) := ⟨_, rfl⟩
  have hs1 : w1.heap.size = w.heap.size + 1 := by rw [hw1]; simp
  rw [← hw1] at hb1 ha1
  have HROW : Hid (∀ W, NW14 w1 (w.heap.size + 1) (le k 1) W → Calls Tryd.prog 38 #[.pointer (some ⟨w.heap.size + 1, 0, none⟩), .slice A' (tls14 k ss).length c'] W (Grows14 w1 W (w.heap.size + 1) (repB14 k ss))) := fun W hn =>
    hn.row A' (tls14 k ss).length c' (tls14 k ss) hcc.1 hcc.2 (by have := hok.1; omega) ((hr'.later14 hb1).later14 hn.2.2) (fun hne a ha => by
      obtain ⟨b, off, e, hb, _⟩ := hr' hne
      rw [e] at ha
      injection ha with ha
      rw [← ha, hs1]
      show b < _
      omega) hok.2 (by rw [le_length]; omega)
  have HBYT : Hid (∀ W, NW14 w1 (w.heap.size + 1) [] W → Calls Tryd.prog 37 #[.pointer (some ⟨w.heap.size + 1, 0, none⟩), .int .u8 k] W (Grows14 w1 W (w.heap.size + 1) (le k 1))) := fun W hn => by
    have := hn.byte (k : Int) k rfl hk (by simp)
    rwa [List.nil_append] at this
  have hlen : (repB14 k ss).length ≤ 1000000 ∨ True := .inr trivial
  have HTD := Lib.hid htd
  have hz := NW14.zero w1
  rw [hs1, hw1] at hz
  rw [← hw1] at hz
  have HZ : Hid (NW14 w1 (w.heap.size + 1) [] ((w.alloc (.cells #[.int .i64 (k : Int), .slice A ss.length c] 42)).alloc (.cells #[.slice none 0 0] 81)).drew) := by rw [← hw1]; exact hz.drew
  have HCE : Hid (∀ W B bs, NW14 w1 B bs W → W.cell? ⟨w.heap.size, 0, none⟩ = some (.int .i64 k) ∧ W.cell? ⟨w.heap.size, 1, none⟩ = some (.slice A ss.length c)) := fun W B bs hn => by
    have := ha1.later (by omega) hn.2.2
    exact ⟨this.c0, this.c1⟩
  have HB1 := Lib.hid hb1
  have hcv : IntKind.u8.wrap (k : Int) = k := by rw [IntKind.wrap_u8']; omega
  have hcw : (k : Int) % 256 = k := by omega
  have HBYS : Hid (∀ W, NW14 w1 (w.heap.size + 1) (repB14 k ss) W → Calls Tryd.prog 40 #[.pointer (some ⟨w.heap.size + 1, 0, none⟩)] W (Told14 w1 (repB14 k ss))) := fun W hn => by
    obtain ⟨hB, ⟨v, hw, hv⟩, ht⟩ := hn
    have hl : (repB14 k ss).length ≤ 1099511627776 := by
      have := rowB_len14 hok.2 hok.1
      unfold repB14
      rw [List.length_append, le_length]
      omega
    exact (bytes_calls _ v _ W hw hl).mono fun e w' ⟨v', he, ho, hb, ht'⟩ => ⟨v', he, ho, fun k hk => Nat.le_trans ht.size (hb k hk), next14 ht (still14 ht')⟩
  clear htd hr' hac hok hcc hb1 ha1 hw1 hr ht hc hm hz hlen hk
  generalize repB14 k ss = out at *
  generalize (tls14 k ss).length = m at *
  generalize ss.length = n at *
  go_enter Tryd.func14, Tryd.ntmps14
  go_wp2
  have HN := HZ
  clear HZ
  go_region_with (first
    | (go_at_call 37; (with_reducible refine (HBYT.out _ HN.out).mono ?_); rintro e W ⟨rfl, hn, _⟩; have hk := HCE.out _ _ _ hn; have k0 := hk.1; have k1 := hk.2; have HN2 := Lib.hid hn; clear HN hn hk; have HN := HN2; clear HN2)
    | (go_at_call 39; (with_reducible refine (HTD.out _).mono ?_); rintro e W ⟨rfl, hb⟩; have hn := HN.out.below hb; have hk := HCE.out _ _ _ hn; have k0 := hk.1; have k1 := hk.2; have HN2 := Lib.hid hn; clear HN hn hk hb; have HN := HN2; clear HN2)
    | (go_at_call 38; (with_reducible refine (HROW.out _ HN.out).mono ?_); rintro e W ⟨rfl, hn, _⟩; have HN2 := Lib.hid hn; clear HN hn; have HN := HN2; clear HN2)
    | (go_at_call 40; (with_reducible refine (HBYS.out _ HN.out).mono ?_); rintro e W ⟨v, rfl, ho, hv, hb⟩; have HO := Lib.hid ho; have HV := Lib.hid hv; have HBZ := Lib.hid hb; obtain ⟨A9, c9, rfl⟩ := owns_shape ho; clear ho hv hb))
  all_goals
    go_wp2
    go_ret
    exact ⟨_, rfl, HO.out, fun k hk => Nat.le_trans HB1.out.size (HV.out k hk), next14 HB1.out HBZ.out⟩

/-- What each operation makes. -/
def YRp14 (n : Nat) (k : Nat) (v : Value) (s1 s2 s3 : ByteArray) : Nat → Value → Prop
  | 0, x => x = .pointer (some ⟨n, 0, none⟩)
  | 1, x => x = .int .i64 k
  | 2, x => x = .int .u64 k
  | 3, x => x = .string s1
  | 4, x => x = .pointer (some ⟨n, 1, none⟩)
  | 5, x => x = v
  | 6, x => x = .string s2
  | 7, x => x = .string s3
  | 8, x => x = .string s3
  | _, _ => True
theorem rrow14_calls (A : Option Addr) (c : Nat) (ss : List ByteArray) (w : World) (hr : RdS w A ss) (ht : Txs14 ss) : Calls Tryd.prog 42 #[.slice A ss.length c] w (Says14 (.string (tx14 (rowB ss))) w) :=
  (refrow_calls A c ss w hr ht.1 ht.2).mono fun _ _ ⟨he, h⟩ => ⟨he, still14 h⟩
theorem rnum14_calls (k : Nat) (w : World) (hk : k < 256) : Calls Tryd.prog 41 #[.int .u64 k, .int .i64 1] w (Says14 (.string (tx14 (le k 1))) w) :=
  (num_at k 1 k 1 w rfl rfl (by omega) (by omega)).mono fun _ _ ⟨he, h⟩ => ⟨he, still14 h⟩

set_option maxRecDepth 100000 in
set_option maxHeartbeats 1000000 in
theorem rPut14_calls (k : Nat) (A : Option Addr) (c : Nat) (ss : List ByteArray) (w : World) (hk : k < 256) (hr : RdS w A ss) (ht : Txs14 ss) :
    Calls Tryd.prog 15 #[.agg #[.int .i64 k, .slice A ss.length c]] w (Says14 (.string (tx14 (repB14 k ss))) w) := by
  have hb1 := alloc14 (Below.refl _ w) (.cells #[.int .i64 (k : Int), .slice A ss.length c] 46)
  have ha1 : (w.alloc (.cells #[.int .i64 (k : Int), .slice A ss.length c] 46)).heap[w.heap.size]? = some (.cells #[.int .i64 (k : Int), .slice A ss.length c] 46 (0, 0)) := heap_alloc_new w _
  have HNU := Lib.hid (fun W => rnum14_calls k W hk)
  have hok := tls14_ok (k := k) ht
  have hcv : IntKind.u64.wrap (k : Int) = k := by rw [IntKind.wrap_u64]; omega
  have hadd : ∀ W, (Op.stringOp .add (tx14 (le k 1)) (tx14 (rowB (tls14 k ss)))).run Tryd.prog W = .ok (.string (tx14 (repB14 k ss))) W := fun W => cat14 W _ _ (by
    have := rowB_len14 hok.2 hok.1
    rw [le_length]
    omega)
  by_cases he : k = 0
  · have e0 : tls14 k ss = ss := by unfold tls14; rw [if_pos (by omega)]
    have HRW : Hid (∀ W, Below w.heap.size w W → Calls Tryd.prog 42 #[.slice A ss.length c] W (Says14 (.string (tx14 (rowB (tls14 k ss)))) W)) := fun W hb => by rw [e0]; exact rrow14_calls A c ss W (hr.later14 hb) ht
    have d0 : ((k : Int) != 0) = false := by simp; omega
    clear hok ht hr e0 he hk
    have HADD := Lib.hid hadd
    generalize tx14 (repB14 k ss) = s3 at *
    generalize tx14 (rowB (tls14 k ss)) = s2 at *
    generalize tx14 (le k 1) = s1 at *
    generalize ss.length = n at *
    have HB1 := Lib.hid hb1
    have HA1 := Lib.hid ha1
    clear hb1 ha1 hadd
    go_enter Tryd.func15, Tryd.ntmps15
    go_wp2
    generalize w.alloc (.cells #[.int .i64 (k : Int), .slice A n c] 46) = w1 at *
    have K0 : w1.cell? ⟨w.heap.size, 0, none⟩ = some (.int .i64 k) := by rw [cell_of_row w1 _ 0 _ _ (0, 0) HA1.out]; rfl
    have K1 : w1.cell? ⟨w.heap.size, 1, none⟩ = some (.slice A n c) := by rw [cell_of_row w1 _ 1 _ _ (0, 0) HA1.out]; rfl
    have LT0 : w.heap.size < w1.heap.size := (Array.getElem?_eq_some_iff.1 HA1.out).1
    have HK0 := Lib.hid K0
    have HK1 := Lib.hid K1
    clear K0 K1
    refine wp_region_inv (by kernel_rfl) (fun W => Below w1.heap.size w1 W) (fun j v _ => YRp14 w.heap.size k (.slice A n c) s1 s2 s3 j v) ?F ?hF (by kernel_rfl) (by kernel_rfl) (drew14 (Below.refl _ _)) ?step ?fin
    case hF =>
      intro x
      simp only [List.map_cons, List.map_nil, putL, Act.put, List.setIfInBounds_toArray, List.set_cons_zero, List.set_cons_succ, Nat.zero_add, Nat.reduceAdd]
      exact rfl
    case step =>
      refine ⟨?_, ?_, ?_, ?_, ?_, ?_, ?_, ?_, ?_, trivial⟩
      all_goals intro x W hW hdep K hK
      · clear hdep
        go_simp
        exact hK _ _ rfl hW (fun _ _ h => h)
      · have h0 : x 0 = _ := hdep 0 rfl
        have k0 := (hW.cell (p := ⟨w.heap.size, 0, none⟩) LT0).trans HK0.out
        clear hdep
        simp only [h0] at hK
        go_simp
        exact hK _ _ rfl hW (fun _ _ h => h)
      · have h1 : x 1 = _ := hdep 1 rfl
        clear hdep
        simp only [h1] at hK
        go_simp
        exact hK _ _ rfl hW (fun _ _ h => h)
      · have h2 : x 2 = _ := hdep 2 rfl
        clear hdep
        simp only [h2] at hK
        go_simp
        refine (HNU.out W).mono ?_
        rintro e W' ⟨rfl, hb⟩
        exact hK _ _ rfl (next14 hW hb) (fun _ _ h => h)
      · clear hdep
        go_simp
        exact hK _ _ rfl hW (fun _ _ h => h)
      · have h4 : x 4 = _ := hdep 4 rfl
        have k1 := (hW.cell (p := ⟨w.heap.size, 1, none⟩) LT0).trans HK1.out
        clear hdep
        simp only [h4] at hK
        go_simp
        exact hK _ _ rfl hW (fun _ _ h => h)
      · have h5 : x 5 = _ := hdep 5 rfl
        clear hdep
        simp only [h5] at hK
        go_simp
        refine (HRW.out W (next14 HB1.out hW)).mono ?_
        rintro e W' ⟨rfl, hb⟩
        exact hK _ _ rfl (next14 hW hb) (fun _ _ h => h)
      · have h3 : x 3 = _ := hdep 3 rfl
        have h6 : x 6 = _ := hdep 6 rfl
        have hadd := HADD.out
        clear hdep
        simp only [h3, h6] at hK
        go_simp
        exact hK _ _ rfl hW (fun _ _ h => h)
      · have h7 : x 7 = _ := hdep 7 rfl
        clear hdep
        simp only [h7] at hK
        go_simp
        exact hK _ _ rfl hW (fun _ _ h => h)
    case fin =>
      intro x W hW hY
      have h8 : x 8 = .string s3 := hY 8 (by decide)
      have HB7 := Lib.hid (next14 HB1.out hW)
      clear hY hW
      rw [h8]
      go_wp2
      go_ret
      exact ⟨rfl, HB7.out⟩
  · have e0 : tls14 k ss = [] := by unfold tls14; rw [if_neg (by omega)]
    have HRW : Hid (∀ W, Below w.heap.size w W → Calls Tryd.prog 42 #[.slice none 0 0] W (Says14 (.string (tx14 (rowB (tls14 k ss)))) W)) := fun W hb => by rw [e0]; exact rrow14_calls none 0 [] W (fun h => absurd rfl h) ⟨Nat.zero_le _, fun s hs => by cases hs⟩
    have d0 : ((k : Int) != 0) = true := by simp; omega
    clear hok ht hr e0 he hk
    have HADD := Lib.hid hadd
    generalize tx14 (repB14 k ss) = s3 at *
    generalize tx14 (rowB (tls14 k ss)) = s2 at *
    generalize tx14 (le k 1) = s1 at *
    generalize ss.length = n at *
    have hb2 : Below w.heap.size w (w.alloc (.cells #[.int .i64 (k : Int), .slice none 0 0] 46)) := alloc14 (Below.refl _ w) _
    have ha2 : (w.alloc (.cells #[.int .i64 (k : Int), .slice none 0 0] 46)).heap[w.heap.size]? = some (.cells #[.int .i64 (k : Int), .slice none 0 0] 46 (0, 0)) := heap_alloc_new w _
    have HB1 := Lib.hid hb2
    have HA1 := Lib.hid ha2
    clear hb1 ha1 hadd hb2 ha2
    go_enter Tryd.func15, Tryd.ntmps15
    go_wp2
    generalize w.alloc (.cells #[.int .i64 (k : Int), .slice none 0 0] 46) = w1 at *
    have K0 : w1.cell? ⟨w.heap.size, 0, none⟩ = some (.int .i64 k) := by rw [cell_of_row w1 _ 0 _ _ (0, 0) HA1.out]; rfl
    have K1 : w1.cell? ⟨w.heap.size, 1, none⟩ = some (.slice none 0 0) := by rw [cell_of_row w1 _ 1 _ _ (0, 0) HA1.out]; rfl
    have LT0 : w.heap.size < w1.heap.size := (Array.getElem?_eq_some_iff.1 HA1.out).1
    have HK0 := Lib.hid K0
    have HK1 := Lib.hid K1
    clear K0 K1
    refine wp_region_inv (by kernel_rfl) (fun W => Below w1.heap.size w1 W) (fun j v _ => YRp14 w.heap.size k (.slice none 0 0) s1 s2 s3 j v) ?F2 ?hF2 (by kernel_rfl) (by kernel_rfl) (drew14 (Below.refl _ _)) ?step2 ?fin2
    case hF2 =>
      intro x
      simp only [List.map_cons, List.map_nil, putL, Act.put, List.setIfInBounds_toArray, List.set_cons_zero, List.set_cons_succ, Nat.zero_add, Nat.reduceAdd]
      exact rfl
    case step2 =>
      refine ⟨?_, ?_, ?_, ?_, ?_, ?_, ?_, ?_, ?_, trivial⟩
      all_goals intro x W hW hdep K hK
      · clear hdep
        go_simp
        exact hK _ _ rfl hW (fun _ _ h => h)
      · have h0 : x 0 = _ := hdep 0 rfl
        have k0 := (hW.cell (p := ⟨w.heap.size, 0, none⟩) LT0).trans HK0.out
        clear hdep
        simp only [h0] at hK
        go_simp
        exact hK _ _ rfl hW (fun _ _ h => h)
      · have h1 : x 1 = _ := hdep 1 rfl
        clear hdep
        simp only [h1] at hK
        go_simp
        exact hK _ _ rfl hW (fun _ _ h => h)
      · have h2 : x 2 = _ := hdep 2 rfl
        clear hdep
        simp only [h2] at hK
        go_simp
        refine (HNU.out W).mono ?_
        rintro e W' ⟨rfl, hb⟩
        exact hK _ _ rfl (next14 hW hb) (fun _ _ h => h)
      · clear hdep
        go_simp
        exact hK _ _ rfl hW (fun _ _ h => h)
      · have h4 : x 4 = _ := hdep 4 rfl
        have k1 := (hW.cell (p := ⟨w.heap.size, 1, none⟩) LT0).trans HK1.out
        clear hdep
        simp only [h4] at hK
        go_simp
        exact hK _ _ rfl hW (fun _ _ h => h)
      · have h5 : x 5 = _ := hdep 5 rfl
        clear hdep
        simp only [h5] at hK
        go_simp
        refine (HRW.out W (next14 HB1.out hW)).mono ?_
        rintro e W' ⟨rfl, hb⟩
        exact hK _ _ rfl (next14 hW hb) (fun _ _ h => h)
      · have h3 : x 3 = _ := hdep 3 rfl
        have h6 : x 6 = _ := hdep 6 rfl
        have hadd := HADD.out
        clear hdep
        simp only [h3, h6] at hK
        go_simp
        exact hK _ _ rfl hW (fun _ _ h => h)
      · have h7 : x 7 = _ := hdep 7 rfl
        clear hdep
        simp only [h7] at hK
        go_simp
        exact hK _ _ rfl hW (fun _ _ h => h)
    case fin2 =>
      intro x W hW hY
      have h8 : x 8 = .string s3 := hY 8 (by decide)
      have HB7 := Lib.hid (next14 HB1.out hW)
      clear hY hW
      rw [h8]
      go_wp2
      go_ret
      exact ⟨rfl, HB7.out⟩
end Go.Proofs.YtacmjmfdhegojaaDoor
