/-
  The document's List; rows of users and of texts that are held against each other.
  Conditions: texts of at most 1000 bytes; rows of at most 12 users.
-/
import Derived.Test.YtclnkboejbnfnaaGreatElderRefB
import Derived.Test.YtclnkboejbnfnaaGreatInv
namespace Go.Proofs.YtclnkboejbnfnaaGreat
open Go.RowKit Go.Maps Go.Sort Go.Shelf

theorem infoStr7 : (Tryz.prog.info? 9).map (fun i => (i.zero, i.size, i.bytes)) = some (some (.string ⟨#[]⟩), 1, 16) := by kernel_rfl
theorem begin_step {L : Row7} {pre : List UInt8} {k : Nat} (hk : k < L.length) : begin7 ((L.take (k + 1)).map (·.1)) pre = begin7 ((L.take k).map (·.1)) pre ++ if Lib.hasPrefix L[k].1 pre then [L[k].1] else [] := by
  unfold begin7
  rw [List.take_succ_eq_append_getElem hk, List.map_append, List.filter_append]
  cases h : Lib.hasPrefix L[k].1 pre <;> simp [h]
theorem begin_le (L : Row7) (pre : List UInt8) (k : Nat) : (begin7 ((L.take k).map (·.1)) pre).length ≤ L.length := Nat.le_trans (List.length_filter_le _ _) (by simp; omega)
theorem begin_size7 (s p : ByteArray) : Lib.hasPrefix s.data.toList p.data.toList = (decide (p.size ≤ s.size) && ((s.extract 0 p.size).toList == p.toList)) := by
  rw [← Lib.hasPrefix_of_take, ← Lib.size_eq, ← Lib.size_eq, Lib.extract_toList, Lib.toList_data]
  simp

/-- A list of texts and an error's number are told. -/
def Lists7 (x : Int) (ls : List (List UInt8)) (w : World) (e : Ending) (w' : World) : Prop := ∃ v, e = .returned (.tuple #[v, .int .i64 x]) ∧ Txs7 w' v ls ∧ Below w.heap.size w w'

set_option maxRecDepth 100000 in
set_option maxHeartbeats 2000000 in
theorem rlist7_calls (v : Value) (L : Row7) (pre : ByteArray) (w : World) (hv : Row7At L w v) (h12 : L.length ≤ 12) (hp : pre.size ≤ 1000) :
    Calls Tryz.prog 17 #[v, .string pre] w (Lists7 (liE pre.data.toList) (liL L pre.data.toList) w) := by
  have hnot : ∀ (x : Bool) (w : World), (Op.unary .not (.bool x)).run Tryz.prog w = .ok (.bool (!x)) w := fun _ _ => rfl
  have HN := Lib.hid (rprefix_calls pre w hp)
  obtain ⟨A, c, rfl⟩ := hv.us.shape
  have HA := Lib.hid hv.us
  clear hv
  obtain ⟨i0, hi, hz0, hz1, hz2⟩ := info_parts infoStr7
  have H10 : Hid (pref5 pre.data.toList = false → liE pre.data.toList = 10) := fun e => by simp [liE, first7, err5, e]
  have H0 : Hid (pref5 pre.data.toList = true → liE pre.data.toList = 0) := fun e => by simp [liE, first7, err5, e]
  have HNO : Hid (liE pre.data.toList ≠ 0 → liL L pre.data.toList = []) := fun e => if_neg e
  have HYE : Hid (liE pre.data.toList = 0 → liL L pre.data.toList = begin7 (L.map (·.1)) pre.data.toList) := fun e => if_pos e
  generalize liE pre.data.toList = x at *
  generalize liL L pre.data.toList = ls at *
  generalize pref5 pre.data.toList = bp at *
  obtain ⟨n, hn⟩ : ∃ n, n = L.length := ⟨_, rfl⟩
  rw [← hn] at h12 ⊢
  have HL := Lib.hid hn
  have HA2 : Hid (Us7 w (.slice A n c) L) := by rw [hn]; exact HA
  clear hn HA
  go_enter Tryz.func17, Tryz.ntmps17
  go_wp2_with fail
  with_reducible refine HN.out.mono ?_
  rintro e w1 ⟨rfl, rfl⟩
  cases bp with
  | false =>
    obtain rfl := H10.out (by first | rfl | trivial)
    obtain rfl := HNO.out (by decide)
    go_wp2
    go_ret2
    exact ⟨_, rfl, Txs7.nil _, Below.refl _ _⟩
  | true =>
  obtain rfl := H0.out (by first | rfl | trivial)
  obtain rfl := HYE.out rfl
  go_wp2
  go_loopg [6, 8, 14] n (fun gg s6 _ s14 wr => ∃ k : Nat, k ≤ n ∧ n - k ≤ gg ∧ s14 = .int .i64 k ∧ Hid (Below w1.heap.size w1 wr) ∧ Hid (wr.ownsRow w1.heap.size 9 1 s6 (begin7 ((L.take k).map (·.1)) pre.data.toList).length ((begin7 ((L.take k).map (·.1)) pre.data.toList).map encStr)))
  case atStart => exact ⟨0, Nat.zero_le _, by omega, rfl, Below.refl _ _, World.ownsRow_nil _ _ _ _⟩
  case round =>
    obtain ⟨k, hk, hg, rfl, HW, HU⟩ := hrel
    have hlen := begin_le L pre.data.toList k
    rw [← HL.out] at hlen
    by_cases hlt : k < n
    · have hltz : (k : Int) < (n : Int) := by omega
      have hkl : k < L.length := HL.out ▸ hlt
      obtain ⟨g, rfl, c0, c1, c2, c3, c4⟩ := (HA2.out.later HW.out).at_ k hkl
      have hst := begin_step (pre := pre.data.toList) hkl
      have HST := Lib.hid hst
      have HBE : Hid (Lib.hasPrefix L[k].1 pre.data.toList = (decide (pre.size ≤ (tx7 L[k].1).size) && (((tx7 L[k].1).extract 0 pre.size).toList == pre.toList))) := by
        have := begin_size7 (tx7 L[k].1) pre
        rwa [tx7_list] at this
      have HEN : Hid (encStr L[k].1 = .string (tx7 L[k].1)) := rfl
      have HWV := Lib.hid (below_next HW.out (below_alloc (Below.refl wr.heap.size wr) (.cells #[.string (tx7 L[k].1), .string (tx7 L[k].2), .string ⟨#[]⟩, .bool false, .slice none 0 0] 64)))
      have HUV := Lib.hid (HU.out.alloc (.cells #[.string (tx7 L[k].1), .string (tx7 L[k].2), .string ⟨#[]⟩, .bool false, .slice none 0 0] 64))
      clear hst
      generalize Lib.hasPrefix L[k].1 pre.data.toList = bg at *
      generalize L[k] = qk at *
      generalize tx7 qk.1 = nm at *
      generalize tx7 qk.2 = sh at *
      by_cases hle : pre.size ≤ nm.size
      case neg =>
        have hbf : bg = false := by rw [HBE.out, decide_eq_false hle]; rfl
        subst hbf
        have y1 : ¬ (nm.size : Int) ≥ (pre.size : Int) := by omega
        have y2 : decide ((nm.size : Int) ≥ (pre.size : Int)) = false := decide_eq_false y1
        clear HBE
        go_wp2
        go_roundg (n - (k + 1))
        case measure => omega
        case rel => exact ⟨k + 1, by omega, by omega, by go_num, HWV, (by show World.ownsRow _ _ _ _ _ _ _; rw [HST.out]; simpa using HUV.out)⟩
      have y1 : (nm.size : Int) ≥ (pre.size : Int) := by omega
      have y2 : decide ((nm.size : Int) ≥ (pre.size : Int)) = true := decide_eq_true y1
      have y3 : (pre.size : Int) ≤ (nm.size : Int) := y1
      cases hbq : ((nm.extract 0 pre.size).toList == pre.toList) with
      | false =>
        have hbf : bg = false := by rw [HBE.out, hbq]; simp
        subst hbf
        have hbq2 : ¬ (nm.extract 0 pre.size).toList = pre.toList := by simpa using hbq
        clear HBE
        go_wp2
        go_roundg (n - (k + 1))
        case measure => omega
        case rel => exact ⟨k + 1, by omega, by omega, by go_num, HWV, (by show World.ownsRow _ _ _ _ _ _ _; rw [HST.out]; simpa using HUV.out)⟩
      | true =>
        have hbt : bg = true := by rw [HBE.out, hbq, decide_eq_true hle]; rfl
        subst hbt
        have hbq2 : (nm.extract 0 pre.size).toList = pre.toList := by simpa using hbq
        clear HBE
        go_wp2_with (first
          | (at_builtin; refine wpList_append_own _ rfl _ _ 38 rfl w1.heap.size 9 i0 (.string ⟨#[]⟩) 1 16 Tryz.underlying38 hi hz0 hz1 hz2 rfl (by decide) _ _ _ rfl (HUV.out.alloc _) ⟨wr.heap.size + 1, 0, none⟩ 1 1 [.string nm] rfl rfl (fun j u hu => by rw [Addr.add_lit, Nat.zero_add, World.cell?_alloc_at _ _ _ _ (by simp)]; simpa using hu) (by simp [Value.oneCell']) (by unfold maxLen; omega) (by omega) (by have := HW.out.size; simp; omega) ?_; intro v2 w2 hown' hgrow _; have HO2 := Lib.hid hown'; have HG2 := Lib.hid hgrow; clear hown' hgrow)
          | fail)
        have ho := HO2.out
        rw [← HEN.out] at ho
        have R1 := Lib.hid ((below_next HWV.out (below_alloc (Below.refl _ _) _)).grown HG2.out (by have := HW.out.size; simp; omega) (fun j hj => (HUV.out.lt j hj).1))
        have R2 : Hid (w2.ownsRow w1.heap.size 9 1 v2 (begin7 ((L.take (k + 1)).map (·.1)) pre.data.toList).length ((begin7 ((L.take (k + 1)).map (·.1)) pre.data.toList).map encStr)) := by
          show World.ownsRow _ _ _ _ _ _ _
          rw [HST.out]
          simpa using ho
        clear ho hbq hbq2
        go_roundg (n - (k + 1))
        case measure => omega
        case rel => exact ⟨k + 1, by omega, by omega, by go_num, R1, R2⟩
    · have hltz : ¬ (k : Int) < (n : Int) := by omega
      obtain rfl : k = n := by omega
      have hu := HU.out
      rw [List.take_of_length_le (by have := HL.out; omega)] at hu
      have ht := Txs7.of_own hu
      have HT := Lib.hid ht
      clear hu ht
      go_wp2
      go_ret2
      exact ⟨_, rfl, HT.out, HW.out⟩

/-! ### held against each other -/
set_option maxRecDepth 100000 in
theorem sametexts7_calls (v1 v2 : Value) (ls : List (List UInt8)) (w : World) (h1 : Txs7 w v1 ls) (h2 : Txs7 w v2 ls) (hn : ls.length ≤ 9223372036854775807) : Calls Tryz.prog 18 #[v1, v2] w (Tells5 true w) := by
  obtain ⟨A1, c1, rfl, hc1⟩ := h1
  obtain ⟨A2, c2, rfl, hc2⟩ := h2
  have HC1 := Lib.hid hc1
  have HC2 := Lib.hid hc2
  clear hc1 hc2
  obtain ⟨n, hln⟩ : ∃ n, n = ls.length := ⟨_, rfl⟩
  rw [← hln] at hn ⊢
  have HL := Lib.hid hln
  clear hln
  go_enter Tryz.func18, Tryz.ntmps18
  go_wp2
  go_loopg [5, 13] n (fun gg _ s13 wr => ∃ k : Nat, k ≤ n ∧ n - k ≤ gg ∧ s13 = .int .i64 k ∧ Hid (Below w.heap.size w wr))
  case atStart => exact ⟨0, Nat.zero_le _, by omega, rfl, Below.refl _ _⟩
  case round =>
    obtain ⟨k, hk, hg, rfl, HW⟩ := hrel
    by_cases hlt : k < n
    · have hltz : (k : Int) < (n : Int) := by omega
      obtain ⟨g1, rfl, d1⟩ := HC1.out k (HL.out ▸ hlt)
      obtain ⟨g2, rfl, d2⟩ := HC2.out k (HL.out ▸ hlt)
      generalize tx7 (ls[k]'(HL.out ▸ hlt)) = s at *
      have n1 : (s.toList != s.toList) = false := by simp
      have n2 : (s.toList == s.toList) = true := by simp
      have e1 := (HW.out.cell (p := ⟨g1, k, none⟩) (World.block_lt_of_cell? w _ d1)).trans d1
      have e2 := (HW.out.cell (p := ⟨g2, k, none⟩) (World.block_lt_of_cell? w _ d2)).trans d2
      clear d1 d2
      go_wp2
      go_quiet (fail)
      go_wp2
      go_roundg (n - (k + 1))
      case measure => omega
      case rel => exact ⟨k + 1, by omega, by omega, by go_num, below_drewN HW.out _⟩
    · have hltz : ¬ (k : Int) < (n : Int) := by omega
      obtain rfl : k = n := by omega
      go_wp2
      go_ret
      exact ⟨rfl, HW.out⟩

set_option maxRecDepth 100000 in
theorem rsame7_calls (s h : ByteArray) (w : World) : Calls Tryz.prog 33 #[.agg #[.string s, .string h, .string ⟨#[]⟩, .bool false, .slice none 0 0], .agg #[.string s, .string h, .string ⟨#[]⟩, .bool false, .slice none 0 0]] w (Tells5 true w) := by
  have n1 : (s.toList != s.toList) = false := by simp
  have n2 : (s.toList == s.toList) = true := by simp
  have n3 : (h.toList != h.toList) = false := by simp
  have n4 : (h.toList == h.toList) = true := by simp
  have HB := Lib.hid (below_alloc (below_alloc (Below.refl w.heap.size w) (.cells #[.string s, .string h, .string ⟨#[]⟩, .bool false, .slice none 0 0] 64)) (.cells #[.string s, .string h, .string ⟨#[]⟩, .bool false, .slice none 0 0] 64))
  go_enter Tryz.func33, Tryz.ntmps33
  go_wp2
  go_loopg [5, 44] 1 (fun _ _ s44 wr => s44 = .int .i64 0 ∧ Hid (Below w.heap.size w wr))
  case atStart => exact ⟨rfl, HB.out⟩
  case round =>
    obtain ⟨rfl, HW⟩ := hrel
    go_wp2
    go_ret
    exact ⟨rfl, HW.out⟩

/-- What each operation makes. -/
def YSam7 (g1 g2 n k c1 c2 : Nat) (s h : ByteArray) : Nat → Value → World → Prop
  | 0, v, _ => v = .slice (some ⟨g1, 0, none⟩) n c1
  | 1, v, _ => v = .int .i64 k
  | 2, v, _ => v = .pointer (some ⟨g1, k * 5, none⟩)
  | 3, v, _ => v = .agg #[.string s, .string h, .string ⟨#[]⟩, .bool false, .slice none 0 0]
  | 4, v, _ => v = .slice (some ⟨g2, 0, none⟩) n c2
  | 5, v, _ => v = .int .i64 k
  | 6, v, _ => v = .pointer (some ⟨g2, k * 5, none⟩)
  | 7, v, _ => v = .agg #[.string s, .string h, .string ⟨#[]⟩, .bool false, .slice none 0 0]
  | 8, v, _ => v = .bool true
  | _, v, _ => v = .bool false
theorem YSam7_keep {g1 g2 n k c1 c2 : Nat} {s h : ByteArray} {W W' : World} (j : Nat) (z : Value) (hz : YSam7 g1 g2 n k c1 c2 s h j z W) : YSam7 g1 g2 n k c1 c2 s h j z W' := by
  match j, hz with
  | 0, hz => exact hz
  | 1, hz => exact hz
  | 2, hz => exact hz
  | 3, hz => exact hz
  | 4, hz => exact hz
  | 5, hz => exact hz
  | 6, hz => exact hz
  | 7, hz => exact hz
  | 8, hz => exact hz
  | _ + 9, hz => exact hz

set_option maxRecDepth 100000 in
set_option maxHeartbeats 2000000 in
theorem sameusers7_calls (v1 v2 : Value) (L : Row7) (w : World) (h1 : Us7 w v1 L) (h2 : Us7 w v2 L) (h12 : L.length ≤ 1000) : Calls Tryz.prog 12 #[v1, v2] w (Tells5 true w) := by
  have hnot : ∀ (x : Bool) (w : World), (Op.unary .not (.bool x)).run Tryz.prog w = .ok (.bool (!x)) w := fun _ _ => rfl
  obtain ⟨A1, c1, rfl⟩ := h1.shape
  obtain ⟨A2, c2, rfl⟩ := h2.shape
  have H1 := Lib.hid h1
  have H2 := Lib.hid h2
  clear h1 h2
  obtain ⟨n, hln⟩ : ∃ n, n = L.length := ⟨_, rfl⟩
  rw [← hln] at h12 H1 H2 ⊢
  have HL := Lib.hid hln
  clear hln
  go_enter Tryz.func12, Tryz.ntmps12
  go_wp2
  go_loopg [5, 13] n (fun gg _ s13 wr => ∃ k : Nat, k ≤ n ∧ n - k ≤ gg ∧ s13 = .int .i64 k ∧ Hid (Below w.heap.size w wr))
  case atStart => exact ⟨0, Nat.zero_le _, by omega, rfl, Below.refl _ _⟩
  case round =>
    obtain ⟨k, hk, hg, rfl, HW⟩ := hrel
    by_cases hlt : k < n
    · have hltz : (k : Int) < (n : Int) := by omega
      have hkl : k < L.length := HL.out ▸ hlt
      obtain ⟨g1, rfl, x0, x1, x2, x3, x4⟩ := (H1.out.later HW.out).at_ k hkl
      obtain ⟨g2, rfl, y0, y1, y2, y3, y4⟩ := (H2.out.later HW.out).at_ k hkl
      have Lg1 : g1 < wr.heap.size := World.block_lt_of_cell? wr _ x0
      have Lg2 : g2 < wr.heap.size := World.block_lt_of_cell? wr _ y0
      have HS : Hid (∀ W, Calls Tryz.prog 33 #[.agg #[.string (tx7 L[k].1), .string (tx7 L[k].2), .string ⟨#[]⟩, .bool false, .slice none 0 0], .agg #[.string (tx7 L[k].1), .string (tx7 L[k].2), .string ⟨#[]⟩, .bool false, .slice none 0 0]] W (Tells5 true W)) := fun W => rsame7_calls _ _ W
      generalize tx7 L[k].1 = s at *
      generalize tx7 L[k].2 = h at *
      have Cg10 := Lib.hid x0
      have Cg11 := Lib.hid x1
      have Cg12 := Lib.hid x2
      have Cg13 := Lib.hid x3
      have Cg14 := Lib.hid x4
      have Cg20 := Lib.hid y0
      have Cg21 := Lib.hid y1
      have Cg22 := Lib.hid y2
      have Cg23 := Lib.hid y3
      have Cg24 := Lib.hid y4
      clear x0 x1 x2 x3 x4 y0 y1 y2 y3 y4
      go_wp2_with fail
      refine wp_region_inv (by kernel_rfl) (fun W => Below wr.heap.size wr W) (YSam7 g1 g2 n k c1 c2 s h) ?F ?hF (by kernel_rfl) (by kernel_rfl) (below_drew (Below.refl _ _)) ?step ?fin
      case hF =>
        intro x
        simp only [List.map_cons, List.map_nil, putL, Act.put, List.setIfInBounds_toArray, List.set_cons_zero, List.set_cons_succ, Nat.zero_add, Nat.reduceAdd]
        exact rfl
      case step =>
        refine ⟨?_, ?_, ?_, ?_, ?_, ?_, ?_, ?_, ?_, ?_, trivial⟩
        all_goals intro x W hW hdep K hK
        · clear hdep
          go_simp
          exact hK _ _ rfl hW (fun _ _ h => h)
        · clear hdep
          go_simp
          exact hK _ _ rfl hW (fun _ _ h => h)
        · have h0 : x 0 = _ := hdep 0 rfl
          have h1 : x 1 = _ := hdep 1 rfl
          clear hdep
          simp only [h0, h1] at hK
          go_simp
          exact hK _ _ rfl hW (fun _ _ h => h)
        · have h2 : x 2 = _ := hdep 2 rfl
          have d0 := (hW.cell (p := ⟨g1, k * 5, none⟩) Lg1).trans Cg10.out
          have d1 := (hW.cell (p := ⟨g1, k * 5 + 1, none⟩) Lg1).trans Cg11.out
          have d2 := (hW.cell (p := ⟨g1, k * 5 + 2, none⟩) Lg1).trans Cg12.out
          have d3 := (hW.cell (p := ⟨g1, k * 5 + 3, none⟩) Lg1).trans Cg13.out
          have d4 := (hW.cell (p := ⟨g1, k * 5 + 4, none⟩) Lg1).trans Cg14.out
          clear hdep
          simp only [h2] at hK
          go_simp
          exact hK _ _ rfl hW (fun _ _ h => h)
        · clear hdep
          go_simp
          exact hK _ _ rfl hW (fun _ _ h => h)
        · clear hdep
          go_simp
          exact hK _ _ rfl hW (fun _ _ h => h)
        · have h4 : x 4 = _ := hdep 4 rfl
          have h5 : x 5 = _ := hdep 5 rfl
          clear hdep
          simp only [h4, h5] at hK
          go_simp
          exact hK _ _ rfl hW (fun _ _ h => h)
        · have h6 : x 6 = _ := hdep 6 rfl
          have d0 := (hW.cell (p := ⟨g2, k * 5, none⟩) Lg2).trans Cg20.out
          have d1 := (hW.cell (p := ⟨g2, k * 5 + 1, none⟩) Lg2).trans Cg21.out
          have d2 := (hW.cell (p := ⟨g2, k * 5 + 2, none⟩) Lg2).trans Cg22.out
          have d3 := (hW.cell (p := ⟨g2, k * 5 + 3, none⟩) Lg2).trans Cg23.out
          have d4 := (hW.cell (p := ⟨g2, k * 5 + 4, none⟩) Lg2).trans Cg24.out
          clear hdep
          simp only [h6] at hK
          go_simp
          exact hK _ _ rfl hW (fun _ _ h => h)
        · have h3 : x 3 = _ := hdep 3 rfl
          have h7 : x 7 = _ := hdep 7 rfl
          clear hdep
          simp only [h3, h7] at hK
          go_simp
          refine (HS.out W).mono ?_
          rintro e W' ⟨rfl, hb⟩
          exact hK _ _ rfl (below_next hW hb) (fun j u hz => YSam7_keep j u hz)
        · have h8 : x 8 = _ := hdep 8 rfl
          clear hdep
          simp only [h8] at hK
          go_simp
          exact hK _ _ rfl hW (fun _ _ h => h)
      case fin =>
        intro x W hW hY
        have h9 : x 9 = .bool false := hY 9 (by decide)
        have HF := Lib.hid (below_next HW.out hW)
        clear hY hW Lg1 Lg2
        rw [h9]
        go_wp2
        go_roundg (n - (k + 1))
        case measure => omega
        case rel => exact ⟨k + 1, by omega, by omega, by go_num, HF⟩
    · have hltz : ¬ (k : Int) < (n : Int) := by omega
      obtain rfl : k = n := by omega
      go_wp2
      go_ret
      exact ⟨rfl, HW.out⟩
end Go.Proofs.YtclnkboejbnfnaaGreat
