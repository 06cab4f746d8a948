/-
  The law OctetLong tells true of any two bytes, and turns nothing that was there.
  Conditions: none.
-/
import Derived.Test.YtgipafdfmghogaaLong
import Derived.Test.YtgipafdfmghogaaInv
import Derived.Test.YtgipafdfmghogaaLawRows
import Derived.Deep.DeepCutAuto
namespace Go.Proofs.Ytgipafdfmghogaa
open Go.RowKit

theorem infoString : (Try.prog.info? 9).map (fun i => (i.zero, i.size, i.bytes)) = some (some (.string ⟨#[]⟩), 1, 16) := by kernel_rfl

theorem text_any (B : Nat) (v : Value) (bs : List UInt8) (s : ByteArray) (M : Nat) (w : World) (h : Wtr w B v bs) (hM : M = min s.size 65535) (hz : s.size ≤ 1099511627776) (hroom : bs.length + 65545 ≤ 1099511627776) :
    Calls Try.prog 13 #[.pointer (some ⟨B, 0, none⟩), .string s] w (Wrote w B v (bs ++ (le M 2 ++ s.data.toList.take M))) := by
  by_cases hs : s.size ≤ 65535
  · have e : M = s.size := by omega
    rw [e, List.take_of_length_le (by rw [bytes_length]; omega)]
    exact text_calls B v bs s w h hs hroom
  · exact text_long B v bs s M w h (by omega) (by omega) hz hroom

/-- A text that was written is read. -/
theorem textS_put (l r : List UInt8) (most : Int) (hl : l.length ≤ 65535) (hm : (l.length : Int) ≤ most) : textS ⟨le l.length 2 ++ (l ++ r), 0⟩ most = (⟨r, 0⟩, l) := by
  have h2 : takeS ⟨le l.length 2 ++ (l ++ r), 0⟩ 2 = (⟨l ++ r, 0⟩, le l.length 2) := by
    unfold takeS
    rw [if_neg (by simp [le_length])]
    rw [List.drop_left' (le_length _ _), List.take_left' (le_length _ _)]
  have hn : numS ⟨le l.length 2 ++ (l ++ r), 0⟩ 2 = (⟨l ++ r, 0⟩, l.length) := by
    unfold numS
    rw [h2, val_le, Nat.mod_eq_of_lt (by omega)]
  have hk : lengthS ⟨le l.length 2 ++ (l ++ r), 0⟩ most = (⟨l ++ r, 0⟩, l.length) := by
    unfold lengthS
    rw [hn, if_neg (by omega)]
  unfold textS
  rw [hk]
  unfold takeS
  rw [if_neg (by simp), List.drop_left, List.take_left]

/-- What each operation of the last comparison makes. -/
def Y15 (R B2 g cnt M : Nat) (c : UInt8) : Nat → Value → World → Prop
  | 0, v, _ => v = .pointer (some ⟨R, 0, none⟩)
  | 1, v, W => v = .string ⟨(List.replicate M c).toArray⟩ ∧ Rdr W R ⟨[], 0⟩
  | 2, v, _ => v = .slice (some ⟨g, 0, none⟩) cnt cnt
  | 3, v, _ => v = .int .i64 M
  | 4, v, _ => v = .slice (some ⟨g, 0, none⟩) M cnt
  | 5, v, _ => v = .string ⟨(List.replicate M c).toArray⟩
  | 6, v, _ => v = .bool true
  | 7, v, _ => v = .bool true
  | 8, v, _ => v = .pointer (some ⟨R, 0, none⟩)
  | 9, v, _ => v = .int .i64 0
  | 10, v, _ => v = .bool true
  | 11, v, _ => v = .bool true
  | 12, v, _ => v = .bool true
  | 13, v, _ => v = .pointer (some ⟨B2, 0, none⟩)
  | 14, v, _ => ∃ A c, v = .slice A (2 + 2 * M) c
  | 15, v, _ => v = .int .i64 ((2 + 2 * M : Nat) : Int)
  | 16, v, _ => v = .int .i64 M
  | 17, v, _ => v = .int .i64 ((2 * M : Nat) : Int)
  | 18, v, _ => v = .int .i64 ((2 + 2 * M : Nat) : Int)
  | 19, v, _ => v = .bool true
  | 20, v, _ => v = .bool true
  | _, v, _ => v = .bool true
theorem Y15_keep {R B2 g cnt M : Nat} {c : UInt8} {W W' : World} (hr : Rdr W R ⟨[], 0⟩ → Rdr W' R ⟨[], 0⟩) (j : Nat) (u : Value) (h : Y15 R B2 g cnt M c j u W) : Y15 R B2 g cnt M c j u W' := by
  match j, h with
  | 0, h => exact h
  | 1, h => exact ⟨h.1, hr h.2⟩
  | 2, h => exact h
  | 3, h => exact h
  | 4, h => exact h
  | 5, h => exact h
  | 6, h => exact h
  | 7, h => exact h
  | 8, h => exact h
  | 9, h => exact h
  | 10, h => exact h
  | 11, h => exact h
  | 12, h => exact h
  | 13, h => exact h
  | 14, h => exact h
  | 15, h => exact h
  | 16, h => exact h
  | 17, h => exact h
  | 18, h => exact h
  | 19, h => exact h
  | 20, h => exact h
  | _ + 21, h => exact h

/-- What is known of the world in the midst of it. -/
def G15 (R : Nat) (w7 : World) (st : St) (L : Nat → Bool) (W : World) : Prop := Turns (fun i => i = R) w7 W ∧ (L 1 = false → Rdr W R st)
theorem G15_same {R : Nat} {w7 W : World} {st : St} {L : Nat → Bool} (h : G15 R w7 st L W) (i : Nat) : G15 R w7 st (updL L i) W :=
  ⟨h.1, fun hl => h.2 (by
    unfold updL at hl
    split at hl
    · cases hl
    · exact hl)⟩
theorem G15_still {R : Nat} {w7 W W' : World} {st : St} {L : Nat → Bool} (h : G15 R w7 st L W) (ht : Turns (fun _ => False) W W') (i : Nat) : G15 R w7 st (updL L i) W' :=
  G15_same ⟨h.1.next ht (fun _ _ f => f.elim), fun hl => (h.2 hl).still ht⟩ i
theorem textS_rep (M : Nat) (c : UInt8) (hM : M ≤ 65535) : textS ⟨le M 2 ++ List.replicate M c, 0⟩ 65535 = (⟨[], 0⟩, List.replicate M c) := by
  have := textS_put (List.replicate M c) [] 65535 (by simpa using hM) (by simp; omega)
  rwa [List.append_nil, List.length_replicate] at this

/-- The cells while b is filled. -/
def fill (c : UInt8) (cnt k : Nat) : List UInt8 := List.replicate k c ++ List.replicate (cnt - k) 0
theorem fill_length (c : UInt8) (cnt k : Nat) (h : k ≤ cnt) : (fill c cnt k).length = cnt := by simp [fill]; omega
theorem fill_next (c : UInt8) (cnt k : Nat) (h : k < cnt) : (cellsOf (fill c cnt k)).set k (.int .u8 c.toNat) = cellsOf (fill c cnt (k + 1)) := by
  have h1 : (fill c cnt k).set k c = fill c cnt (k + 1) := by
    unfold fill
    rw [List.set_append_right _ _ (by simp), List.length_replicate, Nat.sub_self, List.replicate_succ', List.append_assoc]
    congr 1
    rw [show cnt - k = cnt - (k + 1) + 1 by omega, List.replicate_succ]
    rfl
  rw [← h1]
  unfold cellsOf
  rw [List.map_set]
theorem made_one (z : Value) (n : Nat) (hz : z.cells = #[z]) : (madeCells z.cells (n * 1)).toList = List.replicate n z := by
  rw [hz, Nat.mul_one]
  unfold madeCells
  apply List.ext_getElem
  · simp
  · intro i h1 h2
    simp [Nat.mod_one]
theorem made_bytes (n : Nat) : (madeCells (Value.cells (.int .u8 0)) (n * 1)).toList = cellsOf (fill 0 n 0) := by
  rw [made_one _ _ rfl]
  simp [fill, cellsOf]
theorem replicate_size (n : Nat) (c : UInt8) : (ByteArray.mk (List.replicate n c).toArray).size = n := by
  rw [← bytes_length]; simp
theorem rowB_empty (M : Nat) : (rowB (List.replicate M ⟨#[]⟩)).length = 2 + 2 * M := by
  have h : ∀ M, (textsB (List.replicate M ⟨#[]⟩)).length = 2 * M := by
    intro M
    induction M with
    | zero => rfl
    | succ M ih =>
      rw [List.replicate_succ]
      have e : textsB (⟨#[]⟩ :: List.replicate M ⟨#[]⟩) = textB ⟨#[]⟩ ++ textsB (List.replicate M ⟨#[]⟩) := rfl
      rw [e, List.length_append, ih, textB_length]
      show ByteArray.size ⟨#[]⟩ + 2 + 2 * M = _
      have : ByteArray.size ⟨#[]⟩ = 0 := rfl
      omega
  simp only [rowB, List.length_append, le_length, h]

set_option maxRecDepth 100000 in
set_option maxHeartbeats 4000000 in
theorem long_walk (n : Nat) (c : UInt8) (w : World) (hn : n < 256) :
    Calls Try.prog 7 #[.int .u8 n, .int .u8 c.toNat] w (Told true w) := by
  obtain ⟨ib, hib, hzb0, hzb1, hzb2⟩ := info_parts infoByte
  obtain ⟨cnt, hcnt⟩ : ∃ cnt, cnt = 65530 + n % 12 := ⟨_, rfl⟩
  have hcl : cnt ≤ 70000 := by omega
  have HC := Lib.hid hcnt
  clear hcnt
  go_enter Try.func7, Try.ntmps7
  go_wp2_with fail
  with_reducible refine (lives_calls w).mono ?_
  rintro e w1 ⟨rfl, t1⟩
  have HT1 := Lib.hid t1
  clear t1
  go_upto_region 3 with fail
  go_cut [5] (fun s wc => s = .int .i64 cnt ∧ w1 = wc)
  case first =>
    go_wp2_with fail
    go_meet
    case rel => exact ⟨by rw [HC.out]; go_num, rfl⟩
  case rest =>
    obtain ⟨rfl, rfl⟩ := hcut
    go_wp2_with (at_make; refine wpList_make_full _ rfl (.tmp 18) (.tmp 18) 30 (by rfl) 0 5 ib _ 1 Try.underlying30 hib hzb0 hzb1 .i64 .i64 _ _ cnt (by rfl) (by rfl) (by rfl) (by rfl) (by rw [hzb2]; omega) (by simp only [maxLen]; omega) (Nat.zero_le _) ?_; intro w2 ho2 hg2)
    rw [made_bytes] at ho2
    have HO2 := Lib.hid ho2
    have HT2 : Hid (Turns (fun _ => False) w w2) := HT1.out.grown hg2 (fun k hk _ => by cases hk)
    have hlt2 : w1.heap.size < w2.heap.size := (ho2.lt w1.heap.size rfl).2
    have hge : w.heap.size ≤ w1.heap.size := HT1.out.size
    generalize w1.heap.size = g at *
    clear ho2 hg2 HT1
    go_loopw [22] (fun i wr => ∃ k : Nat, k ≤ cnt ∧ i = .int .i64 k ∧ wr.ownsRow 0 5 1 (.slice (some ⟨g, 0, none⟩) cnt cnt) cnt (cellsOf (fill c cnt k)) ∧ Turns (fun _ => False) w wr) (fun i _ => cnt - (intOf i).toNat)
    case atStart => exact ⟨0, Nat.zero_le _, rfl, by simpa [fill] using HO2.out, HT2.out⟩
    case round =>
      obtain ⟨k, hk, rfl, hor, htr⟩ := hrel
      have HOR := Lib.hid hor
      have HTR := Lib.hid htr
      clear HO2 HT2
      by_cases hlt : k < cnt
      · have hcell : wr.cell? ⟨g, k, none⟩ = _ := hor.cellAt k (by omega)
        have hkl : k < (cellsOf (fill c cnt k)).length := by rw [cellsOf_length, fill_length _ _ _ hk]; exact hlt
        rw [List.getElem?_eq_getElem hkl] at hcell
        have hfz := hor.frozenAt k
        have hst := (hor.stored k (.int .u8 c.toNat)).1
        rw [fill_next c cnt k hlt] at hst
        have HST := Lib.hid hst
        have HTS : Hid (Turns (fun _ => False) w (wr.setCell ⟨g, k, none⟩ (.int .u8 c.toNat))) := htr.setCell (p := ⟨g, k, none⟩) (fun h => by simp at h; omega) _
        generalize (cellsOf (fill c cnt k))[k] = old at hcell
        clear hst hor htr HOR HTR hkl
        go_wp2
        go_roundw
        case rel => exact ⟨k + 1, by omega, by go_num, HST.out, HTS.out⟩
        case measure => simp [intOf]; omega
      · obtain rfl : k = cnt := by omega
        have hrd : Rd wr (.slice (some ⟨g, 0, none⟩) k k) (List.replicate k c) := by
          have := HOR.out
          rw [show fill c k k = List.replicate k c by simp [fill]] at this
          have h2 := Rd.of_own (l := List.replicate k c) (v := .slice (some ⟨g, 0, none⟩) k k) (e := 5) (w := wr) (by simpa using this)
          exact h2
        have hst := hrd.string (P := Try.prog) (src := 30) (dst := 9) Try.underlying30 Try.underlying5 Try.underlying9
        have HRD := Lib.hid hrd
        have hst2 : ∀ o o', (convert 30 9 (.slice (some ⟨g, 0, none⟩) k k)).run Try.prog ((wr.alloc o).alloc o') = .ok (.string ⟨(List.replicate k c).toArray⟩) ((wr.alloc o).alloc o') := fun o o' =>
          (HRD.out.still (((Turns.refl _ wr).alloc o).alloc o')).string Try.underlying30 Try.underlying5 Try.underlying9
        have hsz := replicate_size k c
        have hdt : (ByteArray.mk (List.replicate k c).toArray).data.toList = List.replicate k c := by simp
        generalize ByteArray.mk (List.replicate k c).toArray = s at *
        have HSZ := Lib.hid hsz
        have HDT := Lib.hid hdt
        clear hst hrd hor htr hsz hdt HOR
        obtain ⟨M, hM⟩ : ∃ M, M = min k 65535 := ⟨_, rfl⟩
        have hMk : M ≤ k := by omega
        have hM5 : M ≤ 65535 := by omega
        have HM := Lib.hid hM
        clear hM
        obtain ⟨is, his, hzs0, hzs1, hzs2⟩ := info_parts infoString
        have hrm : ([] : List UInt8).length + 65545 ≤ 1099511627776 := by simp
        have HRM := Lib.hid hrm
        clear hrm
        go_wp2_with fail
        with_reducible refine (text_any wr.heap.size _ [] s M _ (two_first wr) (by rw [HM.out, HSZ.out]) (by rw [HSZ.out]; omega) HRM.out).mono ?_
        rintro e w3 ⟨rfl, g3⟩
        rw [HDT.out, List.take_replicate, Nat.min_eq_left hMk, List.nil_append] at g3
        have G3 := Lib.hid g3
        clear g3
        go_wp2_with (at_make; refine wpList_make_full _ rfl (.tmp 39) (.tmp 39) 22 (by rfl) 0 9 is _ 1 Try.underlying22 his hzs0 hzs1 .i64 .i64 _ _ k (by rfl) (by rfl) (by rfl) (by rfl) (by rw [hzs2]; omega) (by simp only [maxLen]; omega) (Nat.zero_le _) ?_; intro w4 ho4 hg4)
        rw [made_one _ _ rfl] at ho4
        have T34 : Turns (fun _ => False) w3 w4 := (Turns.refl _ w3).grown hg4 (fun k hk _ => by cases hk)
        have hlt4 : w3.heap.size < w4.heap.size := (ho4.lt w3.heap.size rfl).2
        have hge3 : (two wr).heap.size ≤ w3.heap.size := by obtain ⟨_, _, _, t⟩ := G3.out; exact t.size
        have hr4 : RdS w4 (some ⟨w3.heap.size, 0, none⟩) (List.replicate M ⟨#[]⟩) := by
          intro _
          refine ⟨w3.heap.size, 0, rfl, hlt4, fun j hj => ?_⟩
          rw [List.length_replicate] at hj
          rw [Nat.zero_add, ho4.cellAt j (by omega)]
          simp [List.getElem?_replicate]
          omega
        have hn4 : List.replicate M (⟨#[]⟩ : ByteArray) ≠ [] → ∀ a, some (⟨w3.heap.size, 0, none⟩ : Addr) = some a → ¬ (a.block = wr.heap.size + 1 ∨ Value.ownBlock (.slice none 0 0) = some a.block) := by
          intro _ a ha
          injection ha with ha
          subst ha
          rintro (h | h)
          · simp [two] at hge3; simp at h; omega
          · simp [Value.ownBlock] at h
        have hs4 : ∀ s ∈ List.replicate M (⟨#[]⟩ : ByteArray), s.size ≤ 65535 := by
          intro s hs
          rw [(List.mem_replicate.1 hs).2]
          decide
        have HR4 := Lib.hid hr4
        have HN4 := Lib.hid hn4
        have HS4 := Lib.hid hs4
        have HX4 := Lib.hid ((two_second G3.out).still T34)
        have HT4 := Lib.hid T34
        have HLM : Hid ((List.replicate M (⟨#[]⟩ : ByteArray)).length = min k 65535) := by rw [List.length_replicate]; exact HM.out
        clear hr4 hn4 hs4 T34 ho4 hg4 hge3 hlt4
        with_reducible refine (row_calls (wr.heap.size + 1) _ [] _ k k (List.replicate M ⟨#[]⟩) w4 HX4.out (by omega) (by omega) HLM.out HR4.out HN4.out HS4.out (by simp)).mono ?_
        rintro e w5 ⟨rfl, g5⟩
        obtain ⟨v1, v2, x5, y5, t5⟩ := two_both G3.out (Went.next (.inl rfl) (HT4.out.mono (fun _ _ f => f.elim)) g5)
        rw [List.nil_append] at y5
        have HX5 := Lib.hid x5
        have HY5 := Lib.hid y5
        have HT5 := Lib.hid t5
        clear x5 y5 t5 g5 G3 HR4 HN4 HS4 HX4 HT4 HLM HRM
        go_upto_region 13 with fail
        go_cut [10] (fun s wc => s = .int .i64 M ∧ w5 = wc)
        case first =>
          by_cases hc : k ≤ 65535
          · go_wp2_with fail
            go_meet
            case rel => exact ⟨by rw [HM.out, Nat.min_eq_left hc], rfl⟩
          · go_wp2_with fail
            go_meet
            case rel => exact ⟨by rw [HM.out, Nat.min_eq_right (by omega)]; simp, rfl⟩
        case rest =>
          obtain ⟨rfl, rfl⟩ := hcut
          obtain ⟨X, hXe⟩ : ∃ X, X = le M 2 ++ List.replicate M c := ⟨_, rfl⟩
          have hrmX : X.length ≤ 1099511627776 := by rw [hXe]; simp only [List.length_append, le_length, List.length_replicate]; omega
          rw [← hXe] at HX5
          have HXE := Lib.hid hXe
          clear hXe
          have HRMX := Lib.hid hrmX
          clear hrmX
          go_wp2_with fail
          with_reducible refine (bytes_calls wr.heap.size v1 _ w5 HX5.out HRMX.out).mono ?_
          rintro e w6 ⟨v6, rfl, ho6, _, t6⟩
          have HRD6 := Lib.hid (Rd.of_own ho6)
          have HT6 := Lib.hid t6
          obtain ⟨A6, c6, rfl⟩ := owns_shape ho6
          clear ho6 t6
          go_wp2_with fail
          with_reducible refine (of_calls _ _ w6 HRD6.out HRMX.out).mono ?_
          rintro e w7 ⟨R, hR6, rfl, hr7, t7⟩
          have hR5 : w5.heap.size ≤ R := Nat.le_trans HT6.out.size hR6
          have HT7 : Hid (Turns (fun _ => False) w w7) := ((HTR.out.still HT5.out).still HT6.out).still t7
          have HBY : Hid (∀ W, Turns (fun i => i = R) w7 W → Calls Try.prog 11 #[.pointer (some ⟨wr.heap.size + 1, 0, none⟩)] W (Fresh W (rowB (List.replicate M ⟨#[]⟩)))) := fun W hW => by
            have y7 := (HY5.out.still HT6.out).still t7
            refine bytes_calls _ v2 _ W (y7.kept hW ?_ ?_) (by rw [rowB_empty]; omega)
            · have := HY5.out.lt; omega
            · intro j hj he
              have := (HY5.out.2.lt j hj).2
              omega
          have HCV : Hid (∀ W, Turns (fun i => i = R) w7 W → (convert 30 9 (.slice (some ⟨g, 0, none⟩) M k)).run Try.prog W = .ok (.string ⟨(List.replicate M c).toArray⟩) W) := fun W hW => by
            have hgw : g < wr.heap.size := by
              obtain ⟨A, cc, he, hh⟩ := HRD.out
              by_cases h0 : List.replicate k c = []
              · have : k = 0 := by simpa using h0
                have := HC.out
                omega
              · obtain ⟨ad, ha, hb, _⟩ := hh h0
                injection he with he
                rw [ha] at he
                injection he with he
                rw [← he] at hb
                exact hb
            have h7 := ((HRD.out.still HT5.out).still HT6.out).still t7
            have hW' := h7.turns hW (fun j hj he => by
              have e1 : g = j := by simpa [Value.ownBlock] using hj
              have := HT5.out.size
              omega)
            have hcut : Rd W (.slice (some ⟨g, 0, none⟩) M k) (List.replicate M c) := by
              obtain ⟨A, cc, he, hh⟩ := hW'
              refine ⟨some ⟨g, 0, none⟩, k, by rw [List.length_replicate], fun hne => ?_⟩
              obtain ⟨ad, ha, hb, hcell⟩ := hh (by
                have : M ≠ 0 := by intro e; apply hne; rw [e]; rfl
                intro e
                have : k = 0 := by simpa using e
                omega)
              injection he with he
              rw [ha] at he
              refine ⟨ad, he, hb, fun j u hu => hcell j u ?_⟩
              rw [← hu]
              have hj : j < M := by have := (List.getElem?_eq_some_iff.1 hu).1; rw [cellsOf_length, List.length_replicate] at this; exact this
              simp [cellsOf, List.getElem?_replicate, hj]
              omega
            exact hcut.string Try.underlying30 Try.underlying5 Try.underlying9
          have HTX : Hid (∀ W, Rdr W R ⟨X, 0⟩ → Calls Try.prog 31 #[.pointer (some ⟨R, 0, none⟩), .int .i64 65535] W (Texts W R ⟨[], 0⟩ (List.replicate M c))) := fun W hW => by
            have := rtext_calls R _ 65535 W hW HRMX.out
            rwa [HXE.out, textS_rep M c hM5] at this
          have HEN : Hid (∀ W, Rdr W R ⟨[], 0⟩ → Calls Try.prog 19 #[.pointer (some ⟨R, 0, none⟩)] W fun e w' => e = .returned (.int .i64 0) ∧ W = w') := fun W hW => rend_calls R _ W hW
          have HG7 : Hid (G15 R w7 ⟨X, 0⟩ (fun _ => false) w7.drew) := ⟨(Turns.refl _ _).drew, fun _ => hr7.still (Turns.refl _ _).drew⟩
          have hkc : (M : Int) ≤ (k : Int) := by omega
          have hm0 : (0 : Int) ≤ (M : Int) := by omega
          have hw1 : IntKind.i64.wrap (2 * (M : Int)) = 2 * (M : Int) := IntWalk.i64_in _ (by omega)
          have hw2 : IntKind.i64.wrap (2 + 2 * (M : Int)) = 2 + 2 * (M : Int) := IntWalk.i64_in _ (by omega)
          have HFN : Hid (∀ W, Turns (fun i => i = R) w7 W → Turns (fun _ => False) w W) := fun W hW => HT7.out.next hW (fun i hi he => by have := HTR.out.size; have := HT5.out.size; have := hR5; omega)
          clear hr7 t7 HX5 HY5 HT5 HT6 HRD6 HRD HTR HT7
          go_upto_region 15 with fail
          refine wp_region_st (by kernel_rfl) (Y15 R (wr.heap.size + 1) g k M c) (G15 R w7 ⟨X, 0⟩) ?F ?hF (by kernel_rfl) (by kernel_rfl) HG7.out ?step ?fin
          case hF =>
            intro x
            simp only [List.map_cons, List.map_nil, putL, Act.put, List.setIfInBounds_toArray, List.set_cons_zero, List.set_cons_succ, Nat.zero_add, Nat.reduceAdd]
            exact rfl
          case step =>
            refine ⟨?_, ?_, ?_, ?_, ?_, ?_, ?_, ?_, ?_, ?_, ?_, ?_, ?_, ?_, ?_, ?_, ?_, ?_, ?_, ?_, ?_, ?_, trivial⟩
            all_goals intro L x W hL hd hcl hG hY K hK
            · clear hd hcl hY
              go_simp
              exact hK _ _ rfl (G15_same hG _) (fun _ _ h => h)
            · have h0 : x 0 = _ := hY 0 (hd 0 rfl)
              have hr := hG.2 hL
              clear hd hcl hY
              simp only [h0] at hK
              go_simp
              refine (HTX.out W hr).mono ?_
              rintro e W' ⟨rfl, hdid⟩
              refine hK _ _ ⟨rfl, hdid.rdr⟩ ⟨hG.1.next hdid.2 (fun _ _ h => h), fun h => by simp [updL] at h⟩ (fun j hj h => ?_)
              exact Y15_keep (fun _ => hdid.rdr) j _ h
            · clear hd hcl hY
              go_simp
              exact hK _ _ rfl (G15_same hG _) (fun _ _ h => h)
            · clear hd hcl hY
              go_simp
              exact hK _ _ rfl (G15_same hG _) (fun _ _ h => h)
            · have h2 : x 2 = _ := hY 2 (hd 2 rfl)
              have h3 : x 3 = _ := hY 3 (hd 3 rfl)
              clear hd hcl hY
              simp only [h2, h3] at hK
              go_simp
              exact hK _ _ rfl (G15_same hG _) (fun _ _ h => h)
            · have h4 : x 4 = _ := hY 4 (hd 4 rfl)
              have hcv := HCV.out W hG.1
              clear hd hcl hY
              simp only [h4] at hK
              go_simp
              exact hK _ _ rfl (G15_same hG _) (fun _ _ h => h)
            · have h5 : x 5 = _ := hY 5 (hd 5 rfl)
              have h1 : x 1 = _ := (hY 1 (hd 1 rfl)).1
              clear hd hcl hY
              simp only [h5, h1] at hK
              go_simp
              exact hK _ _ rfl (G15_same hG _) (fun _ _ h => h)
            · have h6 : x 6 = _ := hY 6 (hd 6 rfl)
              clear hd hcl hY
              simp only [h6] at hK
              go_simp
              exact hK _ _ rfl (G15_same hG _) (fun _ _ h => h)
            · have h7 : x 7 = _ := hY 7 (hd 7 rfl)
              clear hd hcl hY
              simp only [h7] at hK
              go_simp
              exact hK _ _ rfl (G15_same hG _) (fun _ _ h => h)
            · have h7 : x 7 = _ := hY 7 (hd 7 rfl)
              have h8 : x 8 = _ := hY 8 (hd 8 rfl)
              have hr := (hY 1 (hcl 6 _ rfl (hcl 7 _ rfl (hd 7 rfl) 6 rfl) 1 rfl)).2
              clear hd hcl hY
              simp only [h7, h8] at hK
              go_simp
              refine (HEN.out W hr).mono ?_
              rintro e W' ⟨rfl, rfl⟩
              exact hK _ _ rfl (G15_same hG _) (fun _ _ h => h)
            · have h7 : x 7 = _ := hY 7 (hd 7 rfl)
              have h9 : x 9 = _ := hY 9 (hd 9 rfl)
              clear hd hcl hY
              simp only [h7, h9] at hK
              go_simp
              exact hK _ _ rfl (G15_same hG _) (fun _ _ h => h)
            · have h7 : x 7 = _ := hY 7 (hd 7 rfl)
              have h10 : x 10 = _ := hY 10 (hd 10 rfl)
              clear hd hcl hY
              simp only [h7, h10] at hK
              go_simp
              exact hK _ _ rfl (G15_same hG _) (fun _ _ h => h)
            · have h11 : x 11 = _ := hY 11 (hd 11 rfl)
              clear hd hcl hY
              simp only [h11] at hK
              go_simp
              exact hK _ _ rfl (G15_same hG _) (fun _ _ h => h)
            · have h12 : x 12 = _ := hY 12 (hd 12 rfl)
              clear hd hcl hY
              simp only [h12] at hK
              go_simp
              exact hK _ _ rfl (G15_same hG _) (fun _ _ h => h)
            · have h12 : x 12 = _ := hY 12 (hd 12 rfl)
              have h13 : x 13 = _ := hY 13 (hd 13 rfl)
              clear hd hcl hY
              simp only [h12, h13] at hK
              go_simp
              refine (HBY.out W hG.1).mono ?_
              rintro e W' ⟨v', rfl, ho, _, ht⟩
              refine hK _ _ ?_ (G15_still hG ht _) (fun j hj h => Y15_keep (fun hh => hh.still ht) j _ h)
              obtain ⟨A', c', e'⟩ := owns_shape ho
              exact ⟨A', c', by rw [e', rowB_empty]⟩
            · have h12 : x 12 = _ := hY 12 (hd 12 rfl)
              obtain ⟨A', c', h14⟩ := hY 14 (hd 14 rfl)
              clear hd hcl hY
              simp only [h12, h14] at hK
              go_simp
              exact hK _ _ rfl (G15_same hG _) (fun _ _ h => h)
            · have h12 : x 12 = _ := hY 12 (hd 12 rfl)
              clear hd hcl hY
              simp only [h12] at hK
              go_simp
              exact hK _ _ rfl (G15_same hG _) (fun _ _ h => h)
            · have h12 : x 12 = _ := hY 12 (hd 12 rfl)
              have h16 : x 16 = _ := hY 16 (hd 16 rfl)
              clear hd hcl hY
              simp only [h12, h16] at hK
              go_simp
              exact hK _ _ rfl (G15_same hG _) (fun _ _ h => h)
            · have h12 : x 12 = _ := hY 12 (hd 12 rfl)
              have h17 : x 17 = _ := hY 17 (hd 17 rfl)
              clear hd hcl hY
              simp only [h12, h17] at hK
              go_simp
              exact hK _ _ rfl (G15_same hG _) (fun _ _ h => h)
            · have h12 : x 12 = _ := hY 12 (hd 12 rfl)
              have h15 : x 15 = _ := hY 15 (hd 15 rfl)
              have h18 : x 18 = _ := hY 18 (hd 18 rfl)
              clear hd hcl hY
              simp only [h12, h15, h18] at hK
              go_simp
              exact hK _ _ rfl (G15_same hG _) (fun _ _ h => h)
            · have h12 : x 12 = _ := hY 12 (hd 12 rfl)
              have h19 : x 19 = _ := hY 19 (hd 19 rfl)
              clear hd hcl hY
              simp only [h12, h19] at hK
              go_simp
              exact hK _ _ rfl (G15_same hG _) (fun _ _ h => h)
            · have h20 : x 20 = _ := hY 20 (hd 20 rfl)
              clear hd hcl hY
              simp only [h20] at hK
              go_simp
              exact hK _ _ rfl (G15_same hG _) (fun _ _ h => h)
          case fin =>
            intro L x W _ hG hY
            have h21 : x 21 = .bool true := hY 21 (by decide)
            have hfin := HFN.out W hG.1
            clear hY
            go_wp2
            go_ret
            exact ⟨by show Ending.returned (x 21) = _; rw [h21], hfin⟩
end Go.Proofs.Ytgipafdfmghogaa
