/-
  The law OctetRows tells true of any two rows of texts, and turns nothing that was there.
  Conditions: none but that both slices can be read.
-/
import Derived.Test.YtgipafdfmghogaaFew
import Derived.Test.YtgipafdfmghogaaPlain
import Derived.Test.YtgipafdfmghogaaInv
import Derived.Deep.DeepCutAuto
import Derived.Deep.RegionWith
import Derived.Deep.DeepMust
namespace Go.Proofs.Ytgipafdfmghogaa
open Go.RowKit

def itL (A : Option Addr) (ss : List ByteArray) (c : Nat) : It := ⟨0, 0, false, ⟨#[]⟩, A, ss, c, 0, 0, 0⟩

theorem rdI_two {w : World} {A A' : Option Addr} {ss ts : List ByteArray} {c c' : Nat} (h1 : RdS w A ss) (h2 : RdS w A' ts)
    (m1 : ss.length ≤ 9223372036854775807) (m2 : ts.length ≤ 9223372036854775807) (z1 : ∀ s ∈ ss, s.size ≤ 9223372036854775807) (z2 : ∀ s ∈ ts, s.size ≤ 9223372036854775807) :
    RdI (w.alloc (.cells #[.int .u8 0, .int .u64 0, .bool false, .string ⟨#[]⟩, .slice A ss.length c, .int .i64 0, .int .i64 0, .int .i64 0,
      .int .u8 0, .int .u64 0, .bool false, .string ⟨#[]⟩, .slice A' ts.length c', .int .i64 0, .int .i64 0, .int .i64 0] 27)) (some ⟨w.heap.size, 0, none⟩) [itL A ss c, itL A' ts c'] := by
  have ht : ∀ o, Turns (fun _ => False) w (w.alloc o) := fun o => (Turns.refl _ _).alloc o
  refine ⟨fun _ => ⟨w.heap.size, 0, rfl, by simp, ?_⟩, ?_⟩
  · intro i hi j u hu
    rw [cell_of_row _ w.heap.size _ _ _ (0, 0) (heap_alloc_new w _)]
    match i, hi, j, hu with
    | 0, _, 0, hu => exact hu
    | 0, _, 1, hu => exact hu
    | 0, _, 2, hu => exact hu
    | 0, _, 3, hu => exact hu
    | 0, _, 4, hu => exact hu
    | 0, _, 5, hu => exact hu
    | 0, _, 6, hu => exact hu
    | 0, _, 7, hu => exact hu
    | 1, _, 0, hu => exact hu
    | 1, _, 1, hu => exact hu
    | 1, _, 2, hu => exact hu
    | 1, _, 3, hu => exact hu
    | 1, _, 4, hu => exact hu
    | 1, _, 5, hu => exact hu
    | 1, _, 6, hu => exact hu
    | 1, _, 7, hu => exact hu
    | 0, _, j + 8, hu => simp [It.cells, itL] at hu
    | 1, _, j + 8, hu => simp [It.cells, itL] at hu
  · intro t hm
    simp only [List.mem_cons, List.not_mem_nil, or_false] at hm
    rcases hm with rfl | rfl
    · exact ⟨h1.still (ht _), by show ByteArray.size ⟨#[]⟩ ≤ _; decide, m1, z1⟩
    · exact ⟨h2.still (ht _), by show ByteArray.size ⟨#[]⟩ ≤ _; decide, m2, z2⟩
theorem fewB_two {A A' : Option Addr} {ss ts : List ByteArray} {c c' : Nat} (h : fewB [itL A ss c, itL A' ts c'] = true) :
    ss.length ≤ 10 ∧ ts.length ≤ 10 ∧ (∀ s ∈ ss, s.size ≤ 50) ∧ (∀ s ∈ ts, s.size ≤ 50) := by
  simp [fewB, itOk, itL, List.all_eq_true] at h
  exact ⟨h.1.1.2, h.2.1.2, h.1.2, h.2.2⟩

theorem RdS.lt {w : World} {A : Option Addr} {ss : List ByteArray} (h : RdS w A ss) : ss ≠ [] → ∀ a, A = some a → a.block < w.heap.size := by
  intro hne a ha
  obtain ⟨b, off, rfl, hb, _⟩ := h hne
  injection ha with ha
  subst ha
  exact hb
theorem Turns.still {a w w' : World} (h : Turns (fun _ => False) a w) (k : Turns (fun _ => False) w w') : Turns (fun _ => False) a w' := h.next k (fun _ _ f => f)

theorem Wtr.kept {S : Nat → Prop} {w w' : World} {B : Nat} {v : Value} {bs : List UInt8} (h : Wtr w B v bs) (ht : Turns S w w') (hB : ¬ S B) (hv : ∀ k, v.ownBlock = some k → ¬ S k) : Wtr w' B v bs :=
  ⟨(ht.block B h.lt hB).trans h.1, ht.owns h.2 hv⟩
theorem Wtr.still {w w' : World} {B : Nat} {v : Value} {bs : List UInt8} (h : Wtr w B v bs) (ht : Turns (fun _ => False) w w') : Wtr w' B v bs := h.kept ht (fun f => f) (fun _ _ f => f)

/-- Two new Writers. -/
abbrev two (w : World) : World := (w.alloc (.cells #[.slice none 0 0] 32)).alloc (.cells #[.slice none 0 0] 32)
theorem two_first (w : World) : Wtr (two w) w.heap.size (.slice none 0 0) [] := (wtr_new w).still ((Turns.refl _ _).alloc _)
theorem two_second {w w3 : World} {X : List UInt8} (h : Went (two w) w.heap.size (.slice none 0 0) X w3) : Wtr w3 (w.heap.size + 1) (.slice none 0 0) [] := by
  obtain ⟨v1, hw1, ho1, t1⟩ := h
  have h2 : Wtr (two w) (w.heap.size + 1) (.slice none 0 0) [] := by simpa using wtr_new (w.alloc (.cells #[.slice none 0 0] 32))
  refine h2.kept t1 ?_ (by simp [Value.ownBlock])
  rintro (h | h)
  · omega
  · simp [Value.ownBlock] at h
theorem two_both {w w3 w4 : World} {X Y : List UInt8} (h : Went (two w) w.heap.size (.slice none 0 0) X w3) (k : Went w3 (w.heap.size + 1) (.slice none 0 0) Y w4) :
    ∃ v1 v2, Wtr w4 w.heap.size v1 X ∧ Wtr w4 (w.heap.size + 1) v2 Y ∧ Turns (fun _ => False) w w4 := by
  obtain ⟨v1, hw1, ho1, t1⟩ := h
  obtain ⟨v2, hw2, ho2, t2⟩ := k
  refine ⟨v1, v2, hw1.kept t2 ?_ ?_, hw2, ?_⟩
  · rintro (h | h)
    · omega
    · simp [Value.ownBlock] at h
  · intro j hj hs
    rcases hs with rfl | h
    · rcases ho1 with ho1 | ⟨i, hi, hl⟩
      · rw [ho1] at hj; simp [Value.ownBlock] at hj
      · rw [hi] at hj; injection hj with hj; simp [two] at hl; omega
    · simp [Value.ownBlock] at h
  · refine ((((Turns.refl (fun _ => False) w).alloc _).alloc _).next t1 ?_).next t2 ?_
    · rintro i hi (h | h)
      · omega
      · simp [Value.ownBlock] at h
    · rintro i hi (h | h)
      · omega
      · simp [Value.ownBlock] at h

/-- What each operation of the comparison of rows makes. -/
def Y6 (B : Nat) (A A' : Option Addr) (c c' : Nat) (ss ts : List ByteArray) : Nat → Value → World → Prop
  | 0, v, _ => v = .pointer (some ⟨B, 0, none⟩)
  | 1, v, W => Rd W v (rowB ss)
  | 2, v, _ => v = .string ⟨(rowB ss).toArray⟩
  | 3, v, _ => v = .pointer (some ⟨B + 1, 0, none⟩)
  | 4, v, W => Rd W v (rowB ts)
  | 5, v, _ => v = .string ⟨(rowB ts).toArray⟩
  | 6, v, _ => v = .bool (rowB ss == rowB ts)
  | 7, v, _ => v = .slice A ss.length c
  | 8, v, _ => v = .slice A' ts.length c'
  | 9, v, _ => v = .bool (sameB ss ts)
  | _, v, _ => v = .bool false
theorem Y6_still {B : Nat} {A A' : Option Addr} {c c' : Nat} {ss ts : List ByteArray} {W W' : World} (ht : Turns (fun _ => False) W W') (j : Nat) (u : Value) (h : Y6 B A A' c c' ss ts j u W) : Y6 B A A' c c' ss ts j u W' := by
  match j, h with
  | 0, h => exact h
  | 1, h => exact Rd.still h ht
  | 2, h => exact h
  | 3, h => exact h
  | 4, h => exact Rd.still h ht
  | 5, h => exact h
  | 6, h => exact h
  | 7, h => exact h
  | 8, h => exact h
  | 9, h => exact h
  | _ + 10, h => exact h

/-- What each operation of the round's comparison makes. -/
def Y14 (B n m c c' k ba oa bb ob : Nat) (sa sb : ByteArray) : Nat → Value → World → Prop
  | 0, v, _ => v = .pointer (some ⟨B, 0, none⟩)
  | 1, v, W => Rd W v (textB sa)
  | 2, v, _ => v = .string ⟨(textB sa).toArray⟩
  | 3, v, _ => v = .pointer (some ⟨B + 1, 0, none⟩)
  | 4, v, W => Rd W v (textB sb)
  | 5, v, _ => v = .string ⟨(textB sb).toArray⟩
  | 6, v, _ => v = .bool (textB sa == textB sb)
  | 7, v, _ => v = .slice (some ⟨ba, oa, none⟩) n c
  | 8, v, _ => v = .int .i64 k
  | 9, v, _ => v = .pointer (some ⟨ba, oa + k, none⟩)
  | 10, v, _ => v = .string sa
  | 11, v, _ => v = .slice (some ⟨bb, ob, none⟩) m c'
  | 12, v, _ => v = .int .i64 k
  | 13, v, _ => v = .pointer (some ⟨bb, ob + k, none⟩)
  | 14, v, _ => v = .string sb
  | 15, v, _ => v = .bool (sa.toList == sb.toList)
  | _, v, _ => v = .bool false
theorem Y14_still {B n m c c' k ba oa bb ob : Nat} {sa sb : ByteArray} {W W' : World} (ht : Turns (fun _ => False) W W') (j : Nat) (u : Value) (h : Y14 B n m c c' k ba oa bb ob sa sb j u W) : Y14 B n m c c' k ba oa bb ob sa sb j u W' := by
  match j, h with
  | 0, h => exact h
  | 1, h => exact Rd.still h ht
  | 2, h => exact h
  | 3, h => exact h
  | 4, h => exact Rd.still h ht
  | 5, h => exact h
  | 6, h => exact h
  | 7, h => exact h
  | 8, h => exact h
  | 9, h => exact h
  | 10, h => exact h
  | 11, h => exact h
  | 12, h => exact h
  | 13, h => exact h
  | 14, h => exact h
  | 15, h => exact h
  | _ + 16, h => exact h

set_option maxRecDepth 100000 in
set_option maxHeartbeats 4000000 in
theorem rows_walk (A A' : Option Addr) (c c' : Nat) (ss ts : List ByteArray) (w : World) (h1 : RdS w A ss) (h2 : RdS w A' ts) (hc1 : ss.length ≤ c) (hc2 : ts.length ≤ c') (m1 : c ≤ 9223372036854775807) (m2 : c' ≤ 9223372036854775807)
    (z1 : ∀ s ∈ ss, s.size ≤ 9223372036854775807) (z2 : ∀ s ∈ ts, s.size ≤ 9223372036854775807) :
    Calls Try.prog 3 #[.slice A ss.length c, .slice A' ts.length c'] w (Told true w) := by
  have H1 := Lib.hid h1
  have H2 := Lib.hid h2
  have Z1 := Lib.hid z1
  have Z2 := Lib.hid z2
  have B1 : Hid (ss ≠ [] → ∀ a, A = some a → a.block < w.heap.size) := h1.lt
  have B2 : Hid (ts ≠ [] → ∀ a, A' = some a → a.block < w.heap.size) := h2.lt
  clear h1 h2 z1 z2
  go_enter Try.func3, Try.ntmps3
  go_wp2_with fail
  with_reducible refine (lives_calls w).mono ?_
  rintro e w1 ⟨rfl, t1⟩
  have HT1 := Lib.hid t1
  clear t1
  go_wp2_with fail
  have hrd := rdI_two (c := c) (c' := c') (H1.out.still HT1.out) (H2.out.still HT1.out) (by omega) (by omega) Z1.out Z2.out
  with_reducible refine (few_at _ 2 _ _ _ hrd rfl (by omega)).mono ?_
  rintro e w2 ⟨rfl, t2⟩
  have HT2 := Lib.hid ((HT1.out.alloc _).still t2)
  clear t2 hrd
  by_cases hf : fewB [itL A ss c, itL A' ts c'] = true
  · obtain ⟨l1, l2, s1, s2⟩ := fewB_two hf
    rw [hf]
    clear hf
    have S1 := Lib.hid s1
    have S2 := Lib.hid s2
    clear s1 s2
    have S15 : ∀ s ∈ ss, s.size ≤ 65535 := fun s hs => Nat.le_trans (S1.out s hs) (by omega)
    have S25 : ∀ s ∈ ts, s.size ≤ 65535 := fun s hs => Nat.le_trans (S2.out s hs) (by omega)
    have HS15 := Lib.hid S15
    have HS25 := Lib.hid S25
    clear S15 S25
    have hn1 : ss ≠ [] → ∀ a, A = some a → ¬ (a.block = w2.heap.size ∨ Value.ownBlock (.slice none 0 0) = some a.block) := fun hne a ha => by
      rintro (h | h)
      · have := B1.out hne a ha; have := HT2.out.size; omega
      · simp [Value.ownBlock] at h
    have hn2 : ts ≠ [] → ∀ a, A' = some a → ¬ (a.block = w2.heap.size + 1 ∨ Value.ownBlock (.slice none 0 0) = some a.block) := fun hne a ha => by
      rintro (h | h)
      · have := B2.out hne a ha; have := HT2.out.size; omega
      · simp [Value.ownBlock] at h
    have HN1 := Lib.hid hn1
    have HN2 := Lib.hid hn2
    clear hn1 hn2
    have hr1 := (H1.out.still HT2.out).still (((Turns.refl _ w2).alloc (.cells #[.slice none 0 0] 32)).alloc (.cells #[.slice none 0 0] 32))
    have hr2 := (H2.out.still HT2.out).still (((Turns.refl _ w2).alloc (.cells #[.slice none 0 0] 32)).alloc (.cells #[.slice none 0 0] 32))
    have HR1 := Lib.hid hr1
    have HR2 := Lib.hid hr2
    clear hr1 hr2
    go_wp2_with fail
    with_reducible refine (row_calls w2.heap.size _ [] A ss.length c ss _ (two_first w2) hc1 (by omega) (by omega) HR1.out HN1.out HS15.out (by simp)).mono ?_
    rintro e w3 ⟨rfl, g3⟩
    have G3 := Lib.hid g3
    have hr23 : RdS w3 A' ts := by
      obtain ⟨_, _, _, t3⟩ := g3
      refine HR2.out.turns t3 (fun hne a ha => ?_)
      rintro (h | h)
      · have := B2.out hne a ha; have := HT2.out.size; omega
      · simp [Value.ownBlock] at h
    have HR23 := Lib.hid hr23
    clear g3 hr23
    go_wp2_with fail
    with_reducible refine (row_calls (w2.heap.size + 1) _ [] A' ts.length c' ts _ (two_second G3.out) hc2 (by omega) (by omega) HR23.out HN2.out HS25.out (by simp)).mono ?_
    rintro e w4 ⟨rfl, g4⟩
    obtain ⟨v1, v2, x4, y4, t4⟩ := two_both G3.out g4
    rw [List.nil_append] at x4 y4
    have T4 := Lib.hid (HT2.out.still t4)
    have HBX : Hid (∀ W, Turns (fun _ => False) w4 W → Calls Try.prog 11 #[.pointer (some ⟨w2.heap.size, 0, none⟩)] W (Fresh W (rowB ss))) :=
      fun W hW => bytes_calls _ v1 _ W (x4.still hW) (by have := rowB_length ss HS15.out (by omega); omega)
    have HBY : Hid (∀ W, Turns (fun _ => False) w4 W → Calls Try.prog 11 #[.pointer (some ⟨w2.heap.size + 1, 0, none⟩)] W (Fresh W (rowB ts))) :=
      fun W hW => bytes_calls _ v2 _ W (y4.still hW) (by have := rowB_length ts HS25.out (by omega); omega)
    have HSM : Hid (∀ W, Turns (fun _ => False) w4 W → Calls Try.prog 12 #[.slice A ss.length c, .slice A' ts.length c'] W (Told (sameB ss ts) W)) :=
      fun W hW => same_calls A A' c c' ss ts W ((H1.out.still T4.out).still hW) ((H2.out.still T4.out).still hW) (by omega)
    have HEQ : Hid ((rowB ss == rowB ts) = sameB ss ts) := by
      show (rowB ss == rowB ts) = sameB ss ts
      rw [Bool.eq_iff_iff, beq_iff_eq, sameB, decide_eq_true_eq]
      exact ⟨rowB_inj HS15.out HS25.out (by omega) (by omega), fun e => by rw [e]⟩
    clear g4 x4 y4 t4 G3 HR1 HR2 HR23 HN1 HN2
    have hBase : Turns (fun _ => False) w4 w4.drew := (Turns.refl _ _).drew
    go_upto_region 6 with fail
    go_cut [42] (fun r wc => r = .bool false ∧ Turns (fun _ => False) w4 wc)
    case first =>
      have HRS : Hid (∀ (W : World) (v : Value) (l : List UInt8), Rd W v l → (convert 30 9 v).run Try.prog W = .ok (.string ⟨l.toArray⟩) W) :=
        fun W v l h => h.string Try.underlying30 Try.underlying5 Try.underlying9
      refine wp_region_inv (by kernel_rfl) (fun W => Turns (fun _ => False) w4 W) (Y6 w2.heap.size A A' c c' ss ts) ?F6 ?hF6 (by kernel_rfl) (by kernel_rfl) hBase ?step6 ?fin6
      case hF6 =>
        intro x
        simp only [List.map_cons, List.map_nil, putL, Act.put, List.setIfInBounds_toArray, List.set_cons_zero, List.set_cons_succ, Nat.zero_add, Nat.reduceAdd]
        exact rfl
      case step6 =>
        refine ⟨?_, ?_, ?_, ?_, ?_, ?_, ?_, ?_, ?_, ?_, ?_, trivial⟩
        all_goals intro x W hW hdep K hK
        · clear hdep; go_simp; exact hK _ _ rfl hW (fun _ _ h => h)
        · have h0 : x 0 = _ := hdep 0 rfl
          clear hdep
          simp only [h0] at hK
          go_simp
          refine (HBX.out W hW).mono ?_
          rintro e W' ⟨v', rfl, ho, _, ht⟩
          exact hK _ _ (Rd.of_own ho) (hW.still ht) (fun j u h => Y6_still ht j u h)
        · have h1 : Rd W (x 1) _ := hdep 1 rfl
          have hc := HRS.out W _ _ h1
          clear hdep h1
          go_simp
          exact hK _ _ rfl hW (fun _ _ h => h)
        · clear hdep; go_simp; exact hK _ _ rfl hW (fun _ _ h => h)
        · have h3 : x 3 = _ := hdep 3 rfl
          clear hdep
          simp only [h3] at hK
          go_simp
          refine (HBY.out W hW).mono ?_
          rintro e W' ⟨v', rfl, ho, _, ht⟩
          exact hK _ _ (Rd.of_own ho) (hW.still ht) (fun j u h => Y6_still ht j u h)
        · have h4 : Rd W (x 4) _ := hdep 4 rfl
          have hc := HRS.out W _ _ h4
          clear hdep h4
          go_simp
          exact hK _ _ rfl hW (fun _ _ h => h)
        · have h2 : x 2 = _ := hdep 2 rfl
          have h5 : x 5 = _ := hdep 5 rfl
          clear hdep
          simp only [h2, h5] at hK
          go_simp
          exact hK _ _ rfl hW (fun _ _ h => h)
        · clear hdep; go_simp; exact hK _ _ rfl hW (fun _ _ h => h)
        · clear hdep; go_simp; exact hK _ _ rfl hW (fun _ _ h => h)
        · have h7 : x 7 = _ := hdep 7 rfl
          have h8 : x 8 = _ := hdep 8 rfl
          clear hdep
          simp only [h7, h8] at hK
          go_simp
          refine (HSM.out W hW).mono ?_
          rintro e W' ⟨rfl, ht⟩
          exact hK _ _ rfl (hW.still ht) (fun j u h => Y6_still ht j u h)
        · have h6 : x 6 = _ := hdep 6 rfl
          have h9 : x 9 = _ := hdep 9 rfl
          clear hdep
          simp only [h6, h9] at hK
          go_simp
          exact hK _ _ (by show Value.bool _ = Value.bool false; rw [HEQ.out]; simp) hW (fun _ _ h => h)
      case fin6 =>
        intro x W hW hY
        have h10 : x 10 = .bool false := hY 10 (by decide)
        clear hY
        go_wp2_with fail
        go_meet
        case rel => exact ⟨h10, hW⟩
    case rest =>
      obtain ⟨rfl, hcw⟩ := hcut
      have HW := Lib.hid (T4.out.still hcw)
      clear hcw hBase HBX HBY HSM HEQ T4 HT1 HT2
      obtain ⟨M, hM, hM1, hM2⟩ : ∃ M, (M = ss.length ∨ M = ts.length) ∧ M ≤ ss.length ∧ M ≤ ts.length := by
        rcases Nat.lt_or_ge ts.length ss.length with hle | hle
        · exact ⟨ts.length, .inr rfl, by omega, by omega⟩
        · exact ⟨ss.length, .inl rfl, by omega, by omega⟩
      have HM := Lib.hid hM
      clear hM
      go_upto_region 8 with fail
      go_cut [47, 48] (fun m i wx => m = .int .i64 M ∧ i = .int .i64 0 ∧ wx = wc)
      case first =>
        have := HM.out
        rcases Nat.lt_or_ge ts.length ss.length with hle | hle
        · obtain rfl : M = ts.length := by omega
          clear this HM
          go_wp2_with fail
          go_meet
          case rel => exact ⟨rfl, rfl, rfl⟩
        · obtain rfl : M = ss.length := by omega
          clear this HM
          go_wp2_with fail
          go_meet
          case rel => exact ⟨rfl, rfl, rfl⟩
      case rest =>
        obtain ⟨rfl, rfl, rfl⟩ := hcut
        clear HM
        go_wp2
        go_loopg [48] M (fun g i wr => ∃ k : Nat, k ≤ M ∧ g = M - k ∧ i = .int .i64 k ∧ Turns (fun _ => False) w wr)
        case atStart => exact ⟨0, Nat.zero_le _, rfl, rfl, HW.out⟩
        case round =>
          obtain ⟨k, hk, rfl, rfl, htr⟩ := hrel
          have HTR := Lib.hid htr
          clear htr
          by_cases hlt : k < M
          · have k1 : k < ss.length := by omega
            have k2 : k < ts.length := by omega
            obtain ⟨ba, oa, ea, hca⟩ := (H1.out.still HTR.out).at_ k k1
            obtain ⟨bb, ob, eb, hcb⟩ := (H2.out.still HTR.out).at_ k k2
            have hsa := HS15.out _ (List.getElem_mem k1)
            have hsb := HS25.out _ (List.getElem_mem k2)
            have hba : ba < wr.heap.size := Nat.lt_of_lt_of_le (B1.out (by intro e; subst e; simp at k1) _ ea) HTR.out.size
            have hbb : bb < wr.heap.size := Nat.lt_of_lt_of_le (B2.out (by intro e; subst e; simp at k2) _ eb) HTR.out.size
            generalize ss[k] = sa at hca hsa
            generalize ts[k] = sb at hcb hsb
            subst ea
            subst eb
            have hca2 : (two wr).cell? ⟨ba, oa + k, none⟩ = some (.string sa) := ((((Turns.refl (fun _ => False) wr).alloc _).alloc _).cell (p := ⟨ba, oa + k, none⟩) hba (fun f => f)).trans hca
            have HBA := Lib.hid hba
            have HBB := Lib.hid hbb
            clear hba hbb
            have hrm : ([] : List UInt8).length + 65545 ≤ 1099511627776 := by simp
            have HRM := Lib.hid hrm
            clear hrm
            go_wp2_with fail
            with_reducible refine (text_calls wr.heap.size _ [] sa _ (two_first wr) hsa HRM.out).mono ?_
            rintro e w3 ⟨rfl, g3⟩
            have G3 := Lib.hid g3
            have hcb3 : w3.cell? ⟨bb, ob + k, none⟩ = some (.string sb) := by
              obtain ⟨_, _, _, t3⟩ := g3
              have := HBB.out
              exact (t3.cell (p := ⟨bb, ob + k, none⟩) (by simp [two]; omega) (by rintro (h | h); · simp at h; omega
                                                                                  · simp [Value.ownBlock] at h)).trans (((((Turns.refl (fun _ => False) wr).alloc _).alloc _).cell (p := ⟨bb, ob + k, none⟩) this (fun f => f)).trans hcb)
            clear g3
            go_wp2_with fail
            with_reducible refine (text_calls (wr.heap.size + 1) _ [] sb _ (two_second G3.out) hsb HRM.out).mono ?_
            rintro e w4 ⟨rfl, g4⟩
            obtain ⟨v1, v2, x4, y4, t4⟩ := two_both G3.out g4
            rw [List.nil_append] at x4 y4
            have T4 := Lib.hid (HTR.out.still t4)
            have HX : Hid (∀ W, Turns (fun _ => False) w4 W → Calls Try.prog 11 #[.pointer (some ⟨wr.heap.size, 0, none⟩)] W (Fresh W (textB sa))) :=
              fun W hW => bytes_calls _ v1 (textB sa) W (x4.still hW) (by rw [textB_length]; omega)
            have HY : Hid (∀ W, Turns (fun _ => False) w4 W → Calls Try.prog 11 #[.pointer (some ⟨wr.heap.size + 1, 0, none⟩)] W (Fresh W (textB sb))) :=
              fun W hW => bytes_calls _ v2 (textB sb) W (y4.still hW) (by rw [textB_length]; omega)
            have HCA : Hid (∀ W, Turns (fun _ => False) w4 W → W.cell? ⟨ba, oa + k, none⟩ = some (.string sa)) := fun W hW => ((t4.still hW).cell (p := ⟨ba, oa + k, none⟩) HBA.out (fun f => f)).trans hca
            have HCB : Hid (∀ W, Turns (fun _ => False) w4 W → W.cell? ⟨bb, ob + k, none⟩ = some (.string sb)) := fun W hW => ((t4.still hW).cell (p := ⟨bb, ob + k, none⟩) HBB.out (fun f => f)).trans hcb
            have HEQ : Hid ((textB sa == textB sb) = (sa.toList == sb.toList)) := by
              show (textB sa == textB sb) = (sa.toList == sb.toList)
              rw [Bool.eq_iff_iff, beq_iff_eq, beq_iff_eq, ByteArray.toList_eq, ByteArray.toList_eq]
              exact ⟨fun h => by rw [textB_inj1 hsa hsb h], fun h => by rw [ByteArray.ext (Array.toList_inj.1 h)]⟩
            clear g4 x4 y4 t4 G3 hca2 hca hcb hcb3
            have hBase : Turns (fun _ => False) w4 w4.drew := (Turns.refl _ _).drew
            have hk1i : (k : Int) < (ss.length : Int) := by omega
            have hk2i : (k : Int) < (ts.length : Int) := by omega
            have hk0i : (0 : Int) ≤ (k : Int) := by omega
            go_upto_region 14 with fail
            go_cut [83] (fun r wc => r = .bool false ∧ Turns (fun _ => False) w4 wc)
            case first =>
              have HRS : Hid (∀ (W : World) (v : Value) (l : List UInt8), Rd W v l → (convert 30 9 v).run Try.prog W = .ok (.string ⟨l.toArray⟩) W) :=
                fun W v l h => h.string Try.underlying30 Try.underlying5 Try.underlying9
              refine wp_region_inv (by kernel_rfl) (fun W => Turns (fun _ => False) w4 W) (Y14 wr.heap.size ss.length ts.length c c' k ba oa bb ob sa sb) ?F ?hF (by kernel_rfl) (by kernel_rfl) hBase ?step ?fin
              case hF =>
                intro x
                simp only [List.map_cons, List.map_nil, putL, Act.put, List.setIfInBounds_toArray, List.set_cons_zero, List.set_cons_succ, Nat.zero_add, Nat.reduceAdd]
                exact rfl
              case step =>
                refine ⟨?_, ?_, ?_, ?_, ?_, ?_, ?_, ?_, ?_, ?_, ?_, ?_, ?_, ?_, ?_, ?_, ?_, trivial⟩
                all_goals intro x W hW hdep K hK
                · clear hdep; go_simp; exact hK _ _ rfl hW (fun _ _ h => h)
                · have h0 : x 0 = _ := hdep 0 rfl
                  clear hdep
                  simp only [h0] at hK
                  go_simp
                  refine (HX.out W hW).mono ?_
                  rintro e W' ⟨v', rfl, ho, _, ht⟩
                  exact hK _ _ (Rd.of_own ho) (hW.still ht) (fun j u h => Y14_still ht j u h)
                · have h1 : Rd W (x 1) _ := hdep 1 rfl
                  have hc := HRS.out W _ _ h1
                  clear hdep h1
                  go_simp
                  exact hK _ _ rfl hW (fun _ _ h => h)
                · clear hdep; go_simp; exact hK _ _ rfl hW (fun _ _ h => h)
                · have h3 : x 3 = _ := hdep 3 rfl
                  clear hdep
                  simp only [h3] at hK
                  go_simp
                  refine (HY.out W hW).mono ?_
                  rintro e W' ⟨v', rfl, ho, _, ht⟩
                  exact hK _ _ (Rd.of_own ho) (hW.still ht) (fun j u h => Y14_still ht j u h)
                · have h4 : Rd W (x 4) _ := hdep 4 rfl
                  have hc := HRS.out W _ _ h4
                  clear hdep h4
                  go_simp
                  exact hK _ _ rfl hW (fun _ _ h => h)
                · have h2 : x 2 = _ := hdep 2 rfl
                  have h5 : x 5 = _ := hdep 5 rfl
                  clear hdep
                  simp only [h2, h5] at hK
                  go_simp
                  exact hK _ _ rfl hW (fun _ _ h => h)
                · clear hdep; go_simp; exact hK _ _ rfl hW (fun _ _ h => h)
                · clear hdep; go_simp; exact hK _ _ rfl hW (fun _ _ h => h)
                · have h7 : x 7 = _ := hdep 7 rfl
                  have h8 : x 8 = _ := hdep 8 rfl
                  clear hdep
                  simp only [h7, h8] at hK
                  go_simp
                  exact hK _ _ rfl hW (fun _ _ h => h)
                · have h9 : x 9 = _ := hdep 9 rfl
                  have hc := HCA.out W hW
                  clear hdep
                  simp only [h9] at hK
                  go_simp
                  exact hK _ _ rfl hW (fun _ _ h => h)
                · clear hdep; go_simp; exact hK _ _ rfl hW (fun _ _ h => h)
                · clear hdep; go_simp; exact hK _ _ rfl hW (fun _ _ h => h)
                · have h11 : x 11 = _ := hdep 11 rfl
                  have h12 : x 12 = _ := hdep 12 rfl
                  clear hdep
                  simp only [h11, h12] at hK
                  go_simp
                  exact hK _ _ rfl hW (fun _ _ h => h)
                · have h13 : x 13 = _ := hdep 13 rfl
                  have hc := HCB.out W hW
                  clear hdep
                  simp only [h13] at hK
                  go_simp
                  exact hK _ _ rfl hW (fun _ _ h => h)
                · have h10 : x 10 = _ := hdep 10 rfl
                  have h14 : x 14 = _ := hdep 14 rfl
                  clear hdep
                  simp only [h10, h14] at hK
                  go_simp
                  exact hK _ _ rfl hW (fun _ _ h => h)
                · have h6 : x 6 = _ := hdep 6 rfl
                  have h15 : x 15 = _ := hdep 15 rfl
                  clear hdep
                  simp only [h6, h15] at hK
                  go_simp
                  exact hK _ _ (by show Value.bool _ = Value.bool false; rw [HEQ.out]; simp) hW (fun _ _ h => h)
              case fin =>
                intro x W hW hY
                have h16 : x 16 = .bool false := hY 16 (by decide)
                clear hY
                go_wp2_with fail
                go_meet
                case rel => exact ⟨h16, hW⟩
            case rest =>
              obtain ⟨rfl, hcw⟩ := hcut
              have HW2 := Lib.hid (T4.out.still hcw)
              clear hcw hBase HX HY HEQ T4 HCA HCB
              go_wp2
              go_roundg (M - (k + 1))
              case measure => omega
              case rel => exact ⟨k + 1, by omega, rfl, by go_num, HW2.out⟩
          · go_wp2
            go_ret
            exact ⟨rfl, HTR.out⟩
  · have hf' : fewB [itL A ss c, itL A' ts c'] = false := by simpa using hf
    rw [hf']
    clear hf hf'
    go_wp2_with fail
    with_reducible refine (lives_calls w2).mono ?_
    rintro e w3 ⟨rfl, t3⟩
    have HT3 := Lib.hid (HT2.out.still t3)
    clear t3
    go_wp2
    go_ret
    exact ⟨rfl, HT3.out⟩
end Go.Proofs.Ytgipafdfmghogaa
