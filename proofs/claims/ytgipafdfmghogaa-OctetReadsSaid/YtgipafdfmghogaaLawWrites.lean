/-
  The law OctetWrites tells true of any items, and turns nothing that was there.
  Conditions: none but that the items can be read.
-/
import Derived.Test.YtgipafdfmghogaaPut
import Derived.Lib.Builder
namespace Go.Proofs.Ytgipafdfmghogaa
open Go.RowKit

/-- What is known of an item's numbers. -/
def ItWf (t : It) : Prop := 0 ≤ t.kind ∧ t.kind ≤ 255 ∧ 0 ≤ t.x ∧ t.x ≤ 18446744073709551615 ∧ t.ls.length ≤ t.lc ∧ t.lc ≤ 9223372036854775807 ∧ -9223372036854775808 ≤ t.most ∧ t.most ≤ 9223372036854775807 ∧ -9223372036854775808 ≤ t.long ∧ t.long ≤ 9223372036854775807 ∧ -9223372036854775808 ≤ t.e ∧ t.e ≤ 9223372036854775807

/-- An item's bytes. -/
def It.bytes (t : It) : List UInt8 := itB (t.kind.toNat % 9) t.x.toNat t.is t.s t.ls
def itsB (its : List It) : List UInt8 := its.flatMap It.bytes

theorem It.bytes_length (t : It) (h : itOk t = true) : t.bytes.length ≤ 1000 := by
  simp only [itOk, Bool.and_eq_true, decide_eq_true_eq, List.all_eq_true] at h
  obtain ⟨⟨h1, h2⟩, h3⟩ := h
  have hle := le_length
  unfold It.bytes itB
  split
  · rw [le_length]; omega
  · rw [le_length]; omega
  · rw [le_length]; omega
  · rw [le_length]; omega
  · rw [le_length]; omega
  · rw [textB_length]; omega
  · have : ∀ l : List ByteArray, (∀ s ∈ l, s.size ≤ 50) → (textsB l).length ≤ 52 * l.length := by
      intro l
      induction l with
      | nil => intro _; simp [textsB]
      | cons s l ih =>
        intro hh
        have h4 := ih (fun x hx => hh x (List.mem_cons_of_mem _ hx))
        have h5 := hh s (List.mem_cons_self ..)
        have e : textsB (s :: l) = textB s ++ textsB l := rfl
        rw [e, List.length_append, textB_length, List.length_cons]
        omega
    have h6 := this t.ls h3
    simp only [rowB, List.length_append, le_length]
    omega
  · rw [Go.Proofs.Ytgipafdfmghogaa.bytes_length]; omega
  · simp
theorem itsB_length (its : List It) (h : its.all itOk = true) : (itsB its).length ≤ 1000 * its.length := by
  induction its with
  | nil => simp [itsB]
  | cons t its ih =>
    simp only [List.all_cons, Bool.and_eq_true] at h
    have h1 := ih h.2
    have h2 := t.bytes_length h.1
    have e : itsB (t :: its) = t.bytes ++ itsB its := rfl
    rw [e, List.length_append, List.length_cons]
    omega
theorem itsB_snoc {its : List It} {k : Nat} {t : It} (h : its[k]? = some t) : itsB (its.take (k + 1)) = itsB (its.take k) ++ t.bytes := by
  obtain ⟨hl, he⟩ := List.getElem?_eq_some_iff.1 h
  unfold itsB
  rw [List.take_succ_eq_append_getElem hl, List.flatMap_append, List.flatMap_singleton, he]

theorem put_calls (B : Nat) (v : Value) (bs : List UInt8) (t : It) (w : World) (h : Wtr w B v bs) (hroom : bs.length ≤ 1000000) (hw : ItWf t) (hok : itOk t = true) (hrs : RdS w t.la t.ls)
    (hdj : t.ls ≠ [] → ∀ a, t.la = some a → a.block ≠ B ∧ v.ownBlock ≠ some a.block) :
    Calls Try.prog 14 #[.pointer (some ⟨B, 0, none⟩), .agg #[.int .u8 t.kind, .int .u64 t.x, .bool t.is, .string t.s, .slice t.la t.ls.length t.lc, .int .i64 t.most, .int .i64 t.long, .int .i64 t.e]] w (Put w B v bs t.bytes) := by
  obtain ⟨kind, x, is, s, la, ls, lc, mo, lo, ee⟩ := t
  obtain ⟨k0, k1, x0, x1, l0, l1, _⟩ := hw
  dsimp only at *
  obtain ⟨kd, rfl⟩ := Int.eq_ofNat_of_zero_le k0
  obtain ⟨xn, rfl⟩ := Int.eq_ofNat_of_zero_le x0
  simp only [itOk, Bool.and_eq_true, decide_eq_true_eq, List.all_eq_true] at hok
  obtain ⟨⟨h1, h2⟩, h3⟩ := hok
  have hb : It.bytes ⟨(kd : Int), (xn : Int), is, s, la, ls, lc, mo, lo, ee⟩ = itB (kd % 9) xn is s ls := by simp [It.bytes]
  rw [hb]
  rcases (show kd % 9 = 0 ∨ kd % 9 = 1 ∨ kd % 9 = 2 ∨ kd % 9 = 3 ∨ kd % 9 = 4 ∨ kd % 9 = 5 ∨ kd % 9 = 6 ∨ kd % 9 = 7 ∨ kd % 9 = 8 by omega) with hr | hr | hr | hr | hr | hr | hr | hr | hr
  · rw [hr]; exact put0 B v bs kd xn is s la ls.length lc mo lo ee w h (by omega) hr (by omega)
  · rw [hr]; exact put1 B v bs kd xn is s la ls.length lc mo lo ee w h (by omega) hr (by omega)
  · rw [hr]; exact put2 B v bs kd xn is s la ls.length lc mo lo ee w h (by omega) hr (by omega)
  · rw [hr]; exact put3 B v bs kd xn is s la ls.length lc mo lo ee w h (by omega) hr (by omega)
  · rw [hr]; exact put4 B v bs kd xn is s la ls.length lc mo lo ee w h (by omega) hr
  · rw [hr]; exact put5 B v bs kd xn is s la ls.length lc mo lo ee w h (by omega) hr (by omega)
  · rw [hr]; exact put6 B v bs kd xn is s la lc ls mo lo ee w h (by omega) hr l0 l1 (by omega) hrs hdj (fun t ht => Nat.le_trans (h3 t ht) (by omega))
  · rw [hr]; exact put7 B v bs kd xn is s la ls.length lc mo lo ee w h (by omega) hr
  · rw [hr]; exact put8 B v bs kd xn is s la ls.length lc mo lo ee w h hr

theorem neqWriter (a : Addr) (W : World) : (binOp .neq 29 (.pointer (some a)) (.pointer (some a))).run Try.prog W = .ok (.bool false) W := by
  obtain ⟨i0, hi, _⟩ := info_parts infoWriter
  exact Lib.run_neq_ptr_same W a Try.underlying29 hi

theorem fewB_ok {its : List It} (h : fewB its = true) : its.all itOk = true ∧ its.length ≤ 30 := by
  simpa [fewB] using h
theorem all_take {its : List It} (h : its.all itOk = true) (k : Nat) : (its.take k).all itOk = true := by
  rw [List.all_eq_true] at *
  exact fun t ht => h t (List.mem_of_mem_take ht)

set_option maxRecDepth 100000 in
set_option maxHeartbeats 4000000 in
theorem writes_walk (A : Option Addr) (c : Nat) (its : List It) (w : World) (h : RdI w A its) (hm : its.length ≤ 9223372036854775807) (hwf : ∀ t ∈ its, ItWf t) :
    Calls Try.prog 4 #[.slice A its.length c] w (Told true w) := by
  have HI := Lib.hid h
  have HWF := Lib.hid hwf
  clear h hwf
  go_enter Try.func4, Try.ntmps4
  go_wp2_with fail
  with_reducible refine (lives_calls w).mono ?_
  rintro e w1 ⟨rfl, t1⟩
  have HT1 := Lib.hid t1
  have HI1 := Lib.hid (HI.out.still t1)
  clear t1
  go_wp2_with fail
  with_reducible refine (few_at A its.length c its w1 HI1.out rfl hm).mono ?_
  rintro e w2 ⟨rfl, t2⟩
  have HT2 := Lib.hid (HT1.out.still t2)
  clear t2 HI1 HT1
  by_cases hf : fewB its = true
  · obtain ⟨ha, hl⟩ := fewB_ok hf
    rw [hf]
    have HA := Lib.hid ha
    clear hf ha
    have hpn := neqWriter ⟨w2.heap.size, 0, none⟩
    obtain ⟨n, hn⟩ : ∃ n, n = its.length := ⟨_, rfl⟩
    rw [← hn] at hl hm ⊢
    have HN := Lib.hid hn
    have hge : w.heap.size ≤ w2.heap.size := HT2.out.size
    have HW0 := Lib.hid (wtr_new w2)
    have HT0 := Lib.hid (HT2.out.alloc (.cells #[.slice none 0 0] 32))
    clear hn HT2
    go_wp2
    go_loopw [4, 21] (fun want i wr => ∃ (k : Nat) (v : Value), k ≤ n ∧ i = .int .i64 k ∧ want = str (itsB (its.take k)) ∧ Wtr wr w2.heap.size v (itsB (its.take k)) ∧ (∀ j, v.ownBlock = some j → w.heap.size ≤ j) ∧ Turns (fun _ => False) w wr) (fun _ i _ => n - (intOf i).toNat)
    case atStart => exact ⟨0, _, Nat.zero_le _, rfl, rfl, HW0.out, by simp [Value.ownBlock], HT0.out⟩
    case round =>
      obtain ⟨k, v, hk, rfl, rfl, hwt, hvo, htr⟩ := hrel
      clear HW0 HT0
      by_cases hlt : k < n
      · have k1 : k < its.length := by have := HN.out; omega
        obtain ⟨b, off, t, rfl, hb, hcl, hrs, hs1, hs2, hs3, hit⟩ := (HI.out.still htr).at_ k k1
        have htm : t ∈ its := List.mem_of_getElem? hit
        have hok : itOk t = true := List.all_eq_true.1 HA.out t htm
        have hlen : (itsB (its.take k)).length ≤ 30000 := by
          have h1 := itsB_length _ (all_take HA.out k)
          have h2 : (its.take k).length ≤ k := List.length_take_le _ _
          omega
        have hbl := t.bytes_length hok
        have hsn := itsB_snoc hit
        have hadd := fun W => add_str (P := Try.prog) W (itsB (its.take k)) t.bytes (by omega)
        rw [← hsn] at hadd
        have HBX := Lib.hid ((Turns.refl (fun _ => False) wr).alloc (.cells #[.int .u8 t.kind, .int .u64 t.x, .bool t.is, .string t.s, .slice t.la t.ls.length t.lc, .int .i64 t.most, .int .i64 t.long, .int .i64 t.e] 27))
        have HP := Lib.hid (put_calls w2.heap.size v (itsB (its.take k)) t _ (hwt.still HBX.out) (by omega) (HWF.out t htm) hok (hrs.still HBX.out) (fun hne a ha => by
          have h1 := (HI.out.2 t htm).1.lt hne a ha
          refine ⟨by omega, fun he => ?_⟩
          have := hvo _ he
          omega))
        have hlen2 : (itsB (its.take (k + 1))).length ≤ 1099511627776 := by rw [hsn, List.length_append]; omega
        have HL2 := Lib.hid hlen2
        have HSN := Lib.hid hsn
        have c0 : wr.cell? ⟨b, off + k * 8, none⟩ = _ := hcl 0 _ rfl
        have c1 := hcl 1 _ rfl
        have c2 := hcl 2 _ rfl
        have c3 := hcl 3 _ rfl
        have c4 := hcl 4 _ rfl
        have c5 := hcl 5 _ rfl
        have c6 := hcl 6 _ rfl
        have c7 := hcl 7 _ rfl
        have HVO := Lib.hid hvo
        have HTR := Lib.hid htr
        clear hcl hrs hs3 hs1 hs2 hit htm hok hlen hbl hsn hlen2 hwt hvo htr k1
        unfold str
        generalize hbn : itsB (its.take (k + 1)) = bn at *
        have HBN := Lib.hid hbn
        clear hbn
        generalize itsB (its.take k) = bk at *
        go_wp2_with fail
        with_reducible refine HP.out.mono ?_
        rintro e w3 ⟨rfl, hwn⟩
        rw [← HSN.out] at hwn
        obtain ⟨v3, hv3, ho3, ht3⟩ := hwn
        have HV3 := Lib.hid hv3
        have HO3 : Hid (∀ j, v3.ownBlock = some j → w.heap.size ≤ j) := fun j hj => by
          rcases ho3 with ho3 | ⟨i, hi, hil⟩
          · exact HVO.out j (ho3 ▸ hj)
          · rw [hi] at hj
            injection hj with hj
            have h1 := HTR.out.size
            have h2 := HBX.out.size
            omega
        have HT3 : Hid (Turns (fun _ => False) w w3) := (HTR.out.still HBX.out).next ht3 (fun i hi hs => by
          rcases hs with hs | hs
          · omega
          · have := HVO.out i hs; omega)
        clear hv3 ho3 ht3 c0 c1 c2 c3 c4 c5 c6 c7 HP HSN
        go_wp2_with fail
        with_reducible refine (bytes_calls w2.heap.size v3 bn w3 HV3.out HL2.out).mono ?_
        rintro e w4 ⟨v4, rfl, ho4, hb4, ht4⟩
        have hst := (Rd.of_own ho4).string (P := Try.prog) (src := 30) (dst := 9) Try.underlying30 Try.underlying5 Try.underlying9
        have HT4 := Lib.hid (HT3.out.still ht4)
        have HV4 := Lib.hid (HV3.out.still ht4)
        obtain ⟨A4, c4, rfl⟩ := owns_shape ho4
        clear ho4 hb4 ht4
        go_wp2
        go_roundw
        case rel => exact ⟨k + 1, v3, by omega, by go_num, by rw [HBN.out], by rw [HBN.out]; exact HV4.out, HO3.out, HT4.out⟩
        case measure => simp [intOf]; omega
      · go_wp2
        go_ret
        exact ⟨rfl, htr⟩
  · have hf' : fewB its = false := by simpa using hf
    rw [hf']
    clear hf hf'
    go_wp2_with fail
    with_reducible refine (lives_calls w2).mono ?_
    rintro e w3 ⟨rfl, t3⟩
    have HT3 := Lib.hid (HT2.out.still t3)
    clear t3
    go_wp2
    go_ret
    exact ⟨rfl, HT3.out⟩
end Go.Proofs.Ytgipafdfmghogaa
