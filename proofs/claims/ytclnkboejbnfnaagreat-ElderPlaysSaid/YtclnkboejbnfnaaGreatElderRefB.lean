/-
  The document's directory: one less, one more, another sum, who has which, who begins so.
  Conditions: texts of at most 1000 bytes; rows of at most 12 users.
-/
import Derived.Test.YtclnkboejbnfnaaGreatElderRef
namespace Go.Proofs.YtclnkboejbnfnaaGreat
open Go.RowKit Go.Maps Go.Sort Go.Shelf

theorem del_step {L : Row7} {n : List UInt8} {k : Nat} (hk : k < L.length) : delE (L.take (k + 1)) n = delE (L.take k) n ++ if L[k].1 = n then [] else [L[k]] := by rw [List.take_succ_eq_append_getElem hk, del_snoc]
theorem del_le (L : Row7) (n : List UInt8) (k : Nat) : (delE (L.take k) n).length ≤ L.length := Nat.le_trans (List.length_filter_le _ _) (by simp; omega)

set_option maxRecDepth 100000 in
set_option maxHeartbeats 2000000 in
theorem rdrop7_calls (A : Option Addr) (c n : Nat) (L : Row7) (s : ByteArray) (w : World) (hn : n = L.length) (h12 : n ≤ 12) (hu : Us7 w (.slice A n c) L) :
    Calls Tryz.prog 56 #[.slice A n c, .string s] w fun e w' => ∃ v, e = .returned v ∧ Row7At (delE L s.data.toList) w' v ∧ Below w.heap.size w w' := by
  have HA := Lib.hid hu
  have HL := Lib.hid hn
  clear hu hn
  obtain ⟨i0, hi, hz0, hz1, hz2⟩ := info_parts infoUser7
  go_enter Tryz.func56, Tryz.ntmps56
  go_wp2
  go_loopg [5, 7, 10] n (fun gg s5 _ s10 wr => ∃ k : Nat, k ≤ n ∧ n - k ≤ gg ∧ s10 = .int .i64 k ∧ Hid (Below w.heap.size w wr) ∧ Hid (wr.ownsRow w.heap.size 64 5 s5 (delE (L.take k) s.data.toList).length ((delE (L.take k) s.data.toList).flatMap usr7)))
  case atStart => exact ⟨0, Nat.zero_le _, by omega, rfl, Below.refl _ _, World.ownsRow_nil _ _ _ _⟩
  case round =>
    obtain ⟨k, hk, hg, rfl, HW, HU⟩ := hrel
    have hlen := del_le L s.data.toList k
    rw [← HL.out] at hlen
    by_cases hlt : k < n
    · have hltz : (k : Int) < (n : Int) := by omega
      have hkl : k < L.length := HL.out ▸ hlt
      obtain ⟨g, rfl, c0, c1, c2, c3, c4⟩ := (HA.out.later HW.out).at_ k hkl
      have hst := del_step (n := s.data.toList) hkl
      have HWV := Lib.hid (below_next HW.out (below_alloc (Below.refl wr.heap.size wr) (.cells #[.string (tx7 L[k].1), .string (tx7 L[k].2), .string ⟨#[]⟩, .bool false, .slice none 0 0] 64)))
      have HUV := Lib.hid (HU.out.alloc (.cells #[.string (tx7 L[k].1), .string (tx7 L[k].2), .string ⟨#[]⟩, .bool false, .slice none 0 0] 64))
      have HUQ : Hid (usr7 L[k] = [.string (tx7 L[k].1), .string (tx7 L[k].2), .string ⟨#[]⟩, .bool false, .slice none 0 0]) := rfl
      by_cases he : L[k].1 = s.data.toList
      · rw [if_pos he, List.append_nil] at hst
        have hs : tx7 L[k].1 = s := tx7_eq he
        have n2 : (s.toList == s.toList) = true := by simp
        rw [hs] at c0 HWV HUV
        have HST := Lib.hid hst
        clear hs hst he
        generalize tx7 L[k].2 = sh at *
        go_wp2
        go_roundg (n - (k + 1))
        case measure => omega
        case rel => exact ⟨k + 1, by omega, by omega, by go_num, HWV, (show Hid _ from by rw [HST.out]; exact HUV.out)⟩
      · rw [if_neg he] at hst
        have n1 := tx7_ne he
        have n2 : ((tx7 L[k].1).toList == s.toList) = false := by simpa using n1
        have HST := Lib.hid hst
        clear hst he
        generalize L[k] = qk at *
        generalize tx7 qk.1 = nm at *
        generalize tx7 qk.2 = sh at *
        go_wp2_with (first
          | (at_builtin; refine wpList_append_own _ rfl _ _ 27 rfl w.heap.size 64 i0 (.agg #[.string ⟨#[]⟩, .string ⟨#[]⟩, .string ⟨#[]⟩, .bool false, .slice none 0 0]) 5 80 Tryz.underlying27 hi hz0 hz1 hz2 rfl (by decide) _ _ _ rfl (HUV.out.alloc _) ⟨wr.heap.size + 1, 0, none⟩ 1 1 [.string nm, .string sh, .string ⟨#[]⟩, .bool false, .slice none 0 0] rfl rfl (fun j u hu => by rw [Addr.add_lit, Nat.zero_add, World.cell?_alloc_at _ _ _ _ (by simp)]; simpa using hu) (by simp [Value.oneCell']) (by unfold maxLen; omega) (by omega) (by have := HW.out.size; simp; omega) ?_; intro v2 w2 hown' hgrow _; have HO2 := Lib.hid hown'; have HG2 := Lib.hid hgrow; clear hown' hgrow)
          | fail)
        have ho := HO2.out
        rw [← HUQ.out] at ho
        obtain ⟨r1, r2, _⟩ := own7_app HWV.out HUV.out ho HG2.out
        have R1 := Lib.hid r1
        have R2 := Lib.hid r2
        clear r1 r2 ho
        go_roundg (n - (k + 1))
        case measure => omega
        case rel => exact ⟨k + 1, by omega, by omega, by go_num, R1, (show Hid _ from by rw [HST.out]; exact R2.out)⟩
    · have hltz : ¬ (k : Int) < (n : Int) := by omega
      obtain rfl : k = n := by omega
      have hu := HU.out
      rw [List.take_of_length_le (by have := HL.out; omega)] at hu
      have HF := Lib.hid (Row7At.of_own hu)
      clear hu
      go_wp2
      go_ret
      exact ⟨_, rfl, HF.out, HW.out⟩

theorem crE_10 {L : Row7} {n h : List UInt8} (e : name5 n = false) : crE L n h = 10 := by simp [crE, first7, err5, e]
theorem crE_4 {L : Row7} {n h : List UInt8} (e : name5 n = true) (e2 : hash5 h = false) : crE L n h = 4 := by simp [crE, first7, err5, e, e2]
theorem crE_9 {L : Row7} {n h : List UInt8} (e : name5 n = true) (e2 : hash5 h = true) (e3 : hasE L n = true) : crE L n h = 9 := by simp [crE, first7, err5, e, e2, e3]
theorem crE_7 {L : Row7} {n h : List UInt8} (e : name5 n = true) (e2 : hash5 h = true) (e3 : hasE L n = false) (e4 : 12 ≤ L.length) : crE L n h = 7 := by
  have : decide ((L.length : Int) + 1 ≤ 12) = false := decide_eq_false (by omega)
  simp [crE, first7, err5, e, e2, e3]; omega
theorem crE_0 {L : Row7} {n h : List UInt8} (e : name5 n = true) (e2 : hash5 h = true) (e3 : hasE L n = false) (e4 : ¬ 12 ≤ L.length) : crE L n h = 0 := by
  have : decide ((L.length : Int) + 1 ≤ 12) = true := decide_eq_true (by omega)
  simp [crE, first7, err5, e, e2, e3]; omega
theorem crL_no {L : Row7} {n h : List UInt8} (e : crE L n h ≠ 0) : crL L n h = L := if_neg e
theorem crL_yes {L : Row7} {n h : List UInt8} (e : crE L n h = 0) : crL L n h = putE L n h := if_pos e
theorem seE_10 {L : Row7} {n h : List UInt8} (e : name5 n = false) : seE L n h = 10 := by simp [seE, first7, err5, e]
theorem seE_4 {L : Row7} {n h : List UInt8} (e : name5 n = true) (e2 : hash5 h = false) : seE L n h = 4 := by simp [seE, first7, err5, e, e2]
theorem seE_8 {L : Row7} {n h : List UInt8} (e : name5 n = true) (e2 : hash5 h = true) (e3 : hasE L n = false) : seE L n h = 8 := by simp [seE, first7, err5, e, e2, e3]
theorem seE_0 {L : Row7} {n h : List UInt8} (e : name5 n = true) (e2 : hash5 h = true) (e3 : hasE L n = true) : seE L n h = 0 := by simp [seE, first7, err5, e, e2, e3]
theorem deE_10 {L : Row7} {n : List UInt8} (e : name5 n = false) : deE L n = 10 := by simp [deE, first7, err5, e]
theorem deE_8 {L : Row7} {n : List UInt8} (e : name5 n = true) (e3 : hasE L n = false) : deE L n = 8 := by simp [deE, first7, err5, e, e3]
theorem deE_0 {L : Row7} {n : List UInt8} (e : name5 n = true) (e3 : hasE L n = true) : deE L n = 0 := by simp [deE, first7, err5, e, e3]

/-- A row and an error's number are told. -/
def Gives7 (x : Int) (L' : Row7) (w : World) (e : Ending) (w' : World) : Prop := ∃ v, e = .returned (.tuple #[v, .int .i64 x]) ∧ Row7At L' w' v ∧ Below w.heap.size w w'

set_option maxRecDepth 100000 in
set_option maxHeartbeats 1000000 in
theorem rcreate7_calls (v : Value) (L : Row7) (n h : ByteArray) (w : World) (hv : Row7At L w v) (hr : Rise7 L) (h12 : L.length ≤ 12) (hn : n.size ≤ 1000) (hh : h.size ≤ 1000) :
    Calls Tryz.prog 29 #[v, .string n, .string h] w (Gives7 (crE L n.data.toList h.data.toList) (crL L n.data.toList h.data.toList) w) := by
  have hnot : ∀ (x : Bool) (w : World), (Op.unary .not (.bool x)).run Tryz.prog w = .ok (.bool (!x)) w := fun _ _ => rfl
  have HN := Lib.hid (rname_calls n w hn)
  have HH := Lib.hid (rhash_calls h w hh)
  obtain ⟨A, c, rfl⟩ := hv.us.shape
  have HF := Lib.hid (rfind7_calls A c L.length L n w rfl h12 hv.us)
  have HP : Hid (∀ W, Below w.heap.size w W → Calls Tryz.prog 55 #[.slice A L.length c, .agg #[.string n, .string h, .string ⟨#[]⟩, .bool false, .slice none 0 0]] W fun e w' => ∃ v, e = .returned v ∧ Row7At (putE L n.data.toList h.data.toList) w' v ∧ Below W.heap.size W w') := fun W hb => rput7_calls A c L.length L n h W rfl h12 hr (hv.us.later hb)
  have HV := Lib.hid hv
  clear hv hr
  have H10 : Hid (name5 n.data.toList = false → crE L n.data.toList h.data.toList = 10) := crE_10
  have H4 : Hid (name5 n.data.toList = true → hash5 h.data.toList = false → crE L n.data.toList h.data.toList = 4) := crE_4
  have H9 : Hid (name5 n.data.toList = true → hash5 h.data.toList = true → hasE L n.data.toList = true → crE L n.data.toList h.data.toList = 9) := crE_9
  have H7 : Hid (name5 n.data.toList = true → hash5 h.data.toList = true → hasE L n.data.toList = false → 12 ≤ L.length → crE L n.data.toList h.data.toList = 7) := crE_7
  have H0 : Hid (name5 n.data.toList = true → hash5 h.data.toList = true → hasE L n.data.toList = false → ¬ 12 ≤ L.length → crE L n.data.toList h.data.toList = 0) := crE_0
  have HNO : Hid (crE L n.data.toList h.data.toList ≠ 0 → crL L n.data.toList h.data.toList = L) := crL_no
  have HYE : Hid (crE L n.data.toList h.data.toList = 0 → crL L n.data.toList h.data.toList = putE L n.data.toList h.data.toList) := crL_yes
  unfold Found7 at HF
  generalize crE L n.data.toList h.data.toList = x at *
  generalize crL L n.data.toList h.data.toList = L' at *
  generalize putE L n.data.toList h.data.toList = LP at *
  generalize name5 n.data.toList = bn at *
  generalize hash5 h.data.toList = bh at *
  go_enter Tryz.func29, Tryz.ntmps29
  go_wp2_with fail
  with_reducible refine HN.out.mono ?_
  rintro e w1 ⟨rfl, rfl⟩
  cases bn with
  | false =>
    obtain rfl := H10.out (by first | rfl | trivial)
    obtain rfl := HNO.out (by decide)
    go_wp2
    go_ret2
    exact ⟨_, rfl, HV.out, Below.refl _ _⟩
  | true =>
  go_wp2_with fail
  with_reducible refine HH.out.mono ?_
  rintro e w1 ⟨rfl, rfl⟩
  cases bh with
  | false =>
    obtain rfl := H4.out (by first | rfl | trivial) (by first | rfl | trivial)
    obtain rfl := HNO.out (by decide)
    go_wp2
    go_ret2
    exact ⟨_, rfl, HV.out, Below.refl _ _⟩
  | true =>
  go_wp2_with fail
  with_reducible refine HF.out.mono ?_
  rintro e w2 ⟨r, rfl, hr, hb⟩
  have HB := Lib.hid hb
  have HV2 := Lib.hid (HV.out.later hb)
  clear hb
  rcases hr with ⟨hno, rfl⟩ | ⟨hyes, i, hil, rfl, _⟩
  · have HNOE := Lib.hid hno
    clear hno
    by_cases h12b : 12 ≤ L.length
    · obtain rfl := H7.out (by first | rfl | trivial) (by first | rfl | trivial) HNOE.out h12b
      have z : (L.length : Int) ≥ 12 := by omega
      have z' : (12 : Int) ≤ (L.length : Int) := by omega
      obtain rfl := HNO.out (by decide)
      go_wp2
      go_ret2
      exact ⟨_, rfl, HV2.out, HB.out⟩
    · obtain rfl := H0.out (by first | rfl | trivial) (by first | rfl | trivial) HNOE.out h12b
      obtain rfl := HYE.out rfl
      have z : ¬ (L.length : Int) ≥ 12 := by omega
      have z' : ¬ (12 : Int) ≤ (L.length : Int) := by omega
      have HPP := Lib.hid (HP.out w2 HB.out)
      go_wp2_with fail
      with_reducible refine HPP.out.mono ?_
      rintro e w3 ⟨v3, rfl, hv3, hb⟩
      have HV3 := Lib.hid hv3
      have HB3 := Lib.hid (below_next HB.out hb)
      clear hv3 hb
      go_wp2
      go_ret2
      exact ⟨_, rfl, HV3.out, HB3.out⟩
  · obtain rfl := H9.out (by first | rfl | trivial) (by first | rfl | trivial) hyes
    obtain rfl := HNO.out (by decide)
    have z : (i : Int) ≥ 0 := by omega
    have z' : (0 : Int) ≤ (i : Int) := by omega
    clear hyes
    go_wp2
    go_ret2
    exact ⟨_, rfl, HV2.out, HB.out⟩

set_option maxRecDepth 100000 in
set_option maxHeartbeats 1000000 in
theorem rdelete7_calls (v : Value) (L : Row7) (n : ByteArray) (w : World) (hv : Row7At L w v) (h12 : L.length ≤ 12) (hn : n.size ≤ 1000) :
    Calls Tryz.prog 30 #[v, .string n] w (Gives7 (deE L n.data.toList) (deL L n.data.toList) w) := by
  have hnot : ∀ (x : Bool) (w : World), (Op.unary .not (.bool x)).run Tryz.prog w = .ok (.bool (!x)) w := fun _ _ => rfl
  have HN := Lib.hid (rname_calls n w hn)
  obtain ⟨A, c, rfl⟩ := hv.us.shape
  have HF := Lib.hid (rfind7_calls A c L.length L n w rfl h12 hv.us)
  have HP : Hid (∀ W, Below w.heap.size w W → Calls Tryz.prog 56 #[.slice A L.length c, .string n] W fun e w' => ∃ v, e = .returned v ∧ Row7At (delE L n.data.toList) w' v ∧ Below W.heap.size W w') := fun W hb => rdrop7_calls A c L.length L n W rfl h12 (hv.us.later hb)
  have HV := Lib.hid hv
  clear hv
  have H10 : Hid (name5 n.data.toList = false → deE L n.data.toList = 10) := deE_10
  have H8 : Hid (name5 n.data.toList = true → hasE L n.data.toList = false → deE L n.data.toList = 8) := deE_8
  have H0 : Hid (name5 n.data.toList = true → hasE L n.data.toList = true → deE L n.data.toList = 0) := deE_0
  have HNO : Hid (deE L n.data.toList ≠ 0 → deL L n.data.toList = L) := fun e => if_neg e
  have HYE : Hid (deE L n.data.toList = 0 → deL L n.data.toList = delE L n.data.toList) := fun e => if_pos e
  unfold Found7 at HF
  generalize deE L n.data.toList = x at *
  generalize deL L n.data.toList = L' at *
  generalize delE L n.data.toList = LP at *
  generalize name5 n.data.toList = bn at *
  go_enter Tryz.func30, Tryz.ntmps30
  go_wp2_with fail
  with_reducible refine HN.out.mono ?_
  rintro e w1 ⟨rfl, rfl⟩
  cases bn with
  | false =>
    obtain rfl := H10.out (by first | rfl | trivial)
    obtain rfl := HNO.out (by decide)
    go_wp2
    go_ret2
    exact ⟨_, rfl, HV.out, Below.refl _ _⟩
  | true =>
  go_wp2_with fail
  with_reducible refine HF.out.mono ?_
  rintro e w2 ⟨r, rfl, hr, hb⟩
  have HB := Lib.hid hb
  have HV2 := Lib.hid (HV.out.later hb)
  clear hb
  rcases hr with ⟨hno, rfl⟩ | ⟨hyes, i, hil, rfl, _⟩
  · obtain rfl := H8.out (by first | rfl | trivial) hno
    obtain rfl := HNO.out (by decide)
    clear hno
    go_wp2
    go_ret2
    exact ⟨_, rfl, HV2.out, HB.out⟩
  · obtain rfl := H0.out (by first | rfl | trivial) hyes
    obtain rfl := HYE.out rfl
    have z : ¬ (i : Int) < 0 := by omega
    have HPP := Lib.hid (HP.out w2 HB.out)
    clear hyes
    go_wp2_with fail
    with_reducible refine HPP.out.mono ?_
    rintro e w3 ⟨v3, rfl, hv3, hb⟩
    have HV3 := Lib.hid hv3
    have HB3 := Lib.hid (below_next HB.out hb)
    clear hv3 hb
    go_wp2
    go_ret2
    exact ⟨_, rfl, HV3.out, HB3.out⟩

set_option maxRecDepth 100000 in
set_option maxHeartbeats 1000000 in
theorem rsethash7_calls (v : Value) (L : Row7) (n h : ByteArray) (w : World) (hv : Row7At L w v) (hr : Rise7 L) (h12 : L.length ≤ 12) (hn : n.size ≤ 1000) (hh : h.size ≤ 1000) :
    Calls Tryz.prog 31 #[v, .string n, .string h] w (Gives7 (seE L n.data.toList h.data.toList) (seL L n.data.toList h.data.toList) w) := by
  have hnot : ∀ (x : Bool) (w : World), (Op.unary .not (.bool x)).run Tryz.prog w = .ok (.bool (!x)) w := fun _ _ => rfl
  have HN := Lib.hid (rname_calls n w hn)
  have HH := Lib.hid (rhash_calls h w hh)
  obtain ⟨A, c, rfl⟩ := hv.us.shape
  have HF := Lib.hid (rfind7_calls A c L.length L n w rfl h12 hv.us)
  have HP : Hid (∀ W, Below w.heap.size w W → Calls Tryz.prog 55 #[.slice A L.length c, .agg #[.string n, .string h, .string ⟨#[]⟩, .bool false, .slice none 0 0]] W fun e w' => ∃ v, e = .returned v ∧ Row7At (putE L n.data.toList h.data.toList) w' v ∧ Below W.heap.size W w') := fun W hb => rput7_calls A c L.length L n h W rfl h12 hr (hv.us.later hb)
  have HV := Lib.hid hv
  clear hv hr
  have H10 : Hid (name5 n.data.toList = false → seE L n.data.toList h.data.toList = 10) := seE_10
  have H4 : Hid (name5 n.data.toList = true → hash5 h.data.toList = false → seE L n.data.toList h.data.toList = 4) := seE_4
  have H8 : Hid (name5 n.data.toList = true → hash5 h.data.toList = true → hasE L n.data.toList = false → seE L n.data.toList h.data.toList = 8) := seE_8
  have H0 : Hid (name5 n.data.toList = true → hash5 h.data.toList = true → hasE L n.data.toList = true → seE L n.data.toList h.data.toList = 0) := seE_0
  have HNO : Hid (seE L n.data.toList h.data.toList ≠ 0 → seL L n.data.toList h.data.toList = L) := fun e => if_neg e
  have HYE : Hid (seE L n.data.toList h.data.toList = 0 → seL L n.data.toList h.data.toList = putE L n.data.toList h.data.toList) := fun e => if_pos e
  unfold Found7 at HF
  generalize seE L n.data.toList h.data.toList = x at *
  generalize seL L n.data.toList h.data.toList = L' at *
  generalize putE L n.data.toList h.data.toList = LP at *
  generalize name5 n.data.toList = bn at *
  generalize hash5 h.data.toList = bh at *
  go_enter Tryz.func31, Tryz.ntmps31
  go_wp2_with fail
  with_reducible refine HN.out.mono ?_
  rintro e w1 ⟨rfl, rfl⟩
  cases bn with
  | false =>
    obtain rfl := H10.out (by first | rfl | trivial)
    obtain rfl := HNO.out (by decide)
    go_wp2
    go_ret2
    exact ⟨_, rfl, HV.out, Below.refl _ _⟩
  | true =>
  go_wp2_with fail
  with_reducible refine HH.out.mono ?_
  rintro e w1 ⟨rfl, rfl⟩
  cases bh with
  | false =>
    obtain rfl := H4.out (by first | rfl | trivial) (by first | rfl | trivial)
    obtain rfl := HNO.out (by decide)
    go_wp2
    go_ret2
    exact ⟨_, rfl, HV.out, Below.refl _ _⟩
  | true =>
  go_wp2_with fail
  with_reducible refine HF.out.mono ?_
  rintro e w2 ⟨r, rfl, hr, hb⟩
  have HB := Lib.hid hb
  have HV2 := Lib.hid (HV.out.later hb)
  clear hb
  rcases hr with ⟨hno, rfl⟩ | ⟨hyes, i, hil, rfl, hin⟩
  · obtain rfl := H8.out (by first | rfl | trivial) (by first | rfl | trivial) hno
    obtain rfl := HNO.out (by decide)
    clear hno
    go_wp2
    go_ret2
    exact ⟨_, rfl, HV2.out, HB.out⟩
  · obtain rfl := H0.out (by first | rfl | trivial) (by first | rfl | trivial) hyes
    obtain rfl := HYE.out rfl
    have z : ¬ (i : Int) < 0 := by omega
    have z2 : (0 : Int) ≤ (i : Int) := by omega
    have z3 : (i : Int) < (L.length : Int) := by omega
    obtain ⟨g, rfl, c0, c1, c2, c3, c4⟩ := HV2.out.us.at_ i hil
    rw [tx7_eq hin] at c0
    have bl := below_alloc (Below.refl w2.heap.size w2) (.cells #[.string n, .string h, .string ⟨#[]⟩, .bool false, .slice none 0 0] 64)
    have HB2 := Lib.hid (below_next HB.out bl)
    have HPP := Lib.hid (HP.out _ HB2.out)
    clear hyes bl hin
    generalize tx7 L[i].2 = sh at *
    go_wp2_with fail
    with_reducible refine HPP.out.mono ?_
    rintro e w3 ⟨v3, rfl, hv3, hb⟩
    have HV3 := Lib.hid hv3
    have HB3 := Lib.hid (below_next HB2.out hb)
    clear hv3 hb
    go_wp2
    go_ret2
    exact ⟨_, rfl, HV3.out, HB3.out⟩

theorem get_at {L : Row7} (hr : Rise7 L) {i : Nat} (hi : i < L.length) {n : List UInt8} (h : L[i].1 = n) : getE L n = L[i].2 := by
  subst h
  exact get_mem hr (List.getElem_mem hi)
set_option maxRecDepth 100000 in
theorem rlookup7_calls (v : Value) (L : Row7) (n : ByteArray) (w : World) (hv : Row7At L w v) (hr : Rise7 L) (h12 : L.length ≤ 12) (hn : n.size ≤ 1000) :
    Calls Tryz.prog 15 #[v, .string n] w fun e w' => e = .returned (.tuple #[.string (tx7 (loS L n.data.toList)), .int .i64 (deE L n.data.toList)]) ∧ Below w.heap.size w w' := by
  have hnot : ∀ (x : Bool) (w : World), (Op.unary .not (.bool x)).run Tryz.prog w = .ok (.bool (!x)) w := fun _ _ => rfl
  have HN := Lib.hid (rname_calls n w hn)
  obtain ⟨A, c, rfl⟩ := hv.us.shape
  have HF := Lib.hid (rfind7_calls A c L.length L n w rfl h12 hv.us)
  have HV := Lib.hid hv
  clear hv
  have H10 : Hid (name5 n.data.toList = false → deE L n.data.toList = 10) := deE_10
  have H8 : Hid (name5 n.data.toList = true → hasE L n.data.toList = false → deE L n.data.toList = 8) := deE_8
  have H0 : Hid (name5 n.data.toList = true → hasE L n.data.toList = true → deE L n.data.toList = 0) := deE_0
  have HNO : Hid (deE L n.data.toList ≠ 0 → loS L n.data.toList = []) := fun e => if_neg e
  have HYE : Hid (deE L n.data.toList = 0 → loS L n.data.toList = getE L n.data.toList) := fun e => if_pos e
  have HGE : Hid (∀ i (hi : i < L.length), L[i].1 = n.data.toList → getE L n.data.toList = L[i].2) := fun i hi h => get_at hr hi h
  unfold Found7 at HF
  generalize deE L n.data.toList = x at *
  generalize loS L n.data.toList = s at *
  generalize getE L n.data.toList = s' at *
  generalize name5 n.data.toList = bn at *
  go_enter Tryz.func15, Tryz.ntmps15
  go_wp2_with fail
  with_reducible refine HN.out.mono ?_
  rintro e w1 ⟨rfl, rfl⟩
  cases bn with
  | false =>
    obtain rfl := H10.out (by first | rfl | trivial)
    obtain rfl := HNO.out (by decide)
    go_wp2
    go_ret2
    exact ⟨rfl, Below.refl _ _⟩
  | true =>
  go_wp2_with fail
  with_reducible refine HF.out.mono ?_
  rintro e w2 ⟨r, rfl, hr, hb⟩
  have HB := Lib.hid hb
  have HV2 := Lib.hid (HV.out.later hb)
  clear hb
  rcases hr with ⟨hno, rfl⟩ | ⟨hyes, i, hil, rfl, hin⟩
  · obtain rfl := H8.out (by first | rfl | trivial) hno
    obtain rfl := HNO.out (by decide)
    clear hno
    go_wp2
    go_ret2
    exact ⟨rfl, HB.out⟩
  · obtain rfl := H0.out (by first | rfl | trivial) hyes
    obtain rfl := HYE.out rfl
    obtain rfl := HGE.out i hil hin
    have z : ¬ (i : Int) < 0 := by omega
    have z2 : (0 : Int) ≤ (i : Int) := by omega
    have z3 : (i : Int) < (L.length : Int) := by omega
    obtain ⟨g, rfl, _, c1, _⟩ := HV2.out.us.at_ i hil
    clear hyes hin
    go_wp2
    go_ret2
    exact ⟨rfl, HB.out⟩
end Go.Proofs.YtclnkboejbnfnaaGreat
