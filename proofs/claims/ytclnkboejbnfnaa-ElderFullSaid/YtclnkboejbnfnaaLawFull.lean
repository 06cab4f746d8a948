/-
  ElderFull walked: there is room for just so many users; one that goes makes room for one.
  Conditions: the text is no longer than it may be.
-/
import Derived.Test.YtclnkboejbnfnaaElderOwn
namespace Go.Proofs.Ytclnkboejbnfnaa
open Go.RowKit Go.Maps Go.Sort Go.Shelf

/-- The names of one letter, from a on. -/
def nm7 (k : Nat) : List UInt8 := [UInt8.ofNat (97 + k)]
/-- So many users with one sum. -/
def full7 (k : Nat) (h : List UInt8) : Row7 := (List.range k).map fun i => (nm7 i, h)
def gone7 (g : Nat) (h : List UInt8) : Row7 := delE (full7 12 h) (nm7 g)
def anew7 (g : Nat) (h : List UInt8) : Row7 := putE (gone7 g h) (nm7 12) h

theorem below12 {k : Nat} (h : k < 12) : k = 0 ∨ k = 1 ∨ k = 2 ∨ k = 3 ∨ k = 4 ∨ k = 5 ∨ k = 6 ∨ k = 7 ∨ k = 8 ∨ k = 9 ∨ k = 10 ∨ k = 11 := by omega
theorem below13 {k : Nat} (h : k < 13) : k = 0 ∨ k = 1 ∨ k = 2 ∨ k = 3 ∨ k = 4 ∨ k = 5 ∨ k = 6 ∨ k = 7 ∨ k = 8 ∨ k = 9 ∨ k = 10 ∨ k = 11 ∨ k = 12 := by omega

theorem full_step {h : List UInt8} (hh : hash5 h = true) {k : Nat} (hk : k < 12) : crE (full7 k h) (nm7 k) h = 0 ∧ crL (full7 k h) (nm7 k) h = full7 (k + 1) h := by
  have e : crE (full7 k h) (nm7 k) h = 0 := by
    unfold crE
    rw [hh]
    rcases below12 hk with rfl | rfl | rfl | rfl | rfl | rfl | rfl | rfl | rfl | rfl | rfl | rfl <;> kernel_rfl
  refine ⟨e, ?_⟩
  unfold crL
  rw [if_pos e]
  rcases below12 hk with rfl | rfl | rfl | rfl | rfl | rfl | rfl | rfl | rfl | rfl | rfl | rfl <;> kernel_rfl
theorem full_bad {h : List UInt8} (hh : hash5 h = false) : crE (full7 0 h) (nm7 0) h = 4 ∧ crL (full7 0 h) (nm7 0) h = [] := by
  have e : crE (full7 0 h) (nm7 0) h = 4 := by
    unfold crE
    rw [hh]
    kernel_rfl
  refine ⟨e, ?_⟩
  unfold crL
  rw [if_neg (by rw [e]; decide)]
  kernel_rfl
theorem full_end {h : List UInt8} (hh : hash5 h = true) {g : Nat} (hg : g < 12) :
    (crE (full7 12 h) (nm7 12) h = 7 ∧ crL (full7 12 h) (nm7 12) h = full7 12 h) ∧ (crE (full7 12 h) (nm7 g) h = 9 ∧ crL (full7 12 h) (nm7 g) h = full7 12 h) ∧
    (deE (full7 12 h) (nm7 g) = 0 ∧ deL (full7 12 h) (nm7 g) = gone7 g h) ∧ (crE (gone7 g h) (nm7 12) h = 0 ∧ crL (gone7 g h) (nm7 12) h = anew7 g h) ∧
    (anew7 g h).length = 12 ∧ seE (anew7 g h) (nm7 g) h = 8 := by
  have e1 : crE (full7 12 h) (nm7 12) h = 7 := by
    unfold crE
    rw [hh]
    kernel_rfl
  have e2 : crE (full7 12 h) (nm7 g) h = 9 := by
    unfold crE
    rw [hh]
    rcases below12 hg with rfl | rfl | rfl | rfl | rfl | rfl | rfl | rfl | rfl | rfl | rfl | rfl <;> kernel_rfl
  have e3 : deE (full7 12 h) (nm7 g) = 0 := by
    rcases below12 hg with rfl | rfl | rfl | rfl | rfl | rfl | rfl | rfl | rfl | rfl | rfl | rfl <;> kernel_rfl
  have e4 : crE (gone7 g h) (nm7 12) h = 0 := by
    unfold crE
    rw [hh]
    rcases below12 hg with rfl | rfl | rfl | rfl | rfl | rfl | rfl | rfl | rfl | rfl | rfl | rfl <;> kernel_rfl
  have e5 : (anew7 g h).length = 12 := by
    rcases below12 hg with rfl | rfl | rfl | rfl | rfl | rfl | rfl | rfl | rfl | rfl | rfl | rfl <;> kernel_rfl
  have e6 : seE (anew7 g h) (nm7 g) h = 8 := by
    unfold seE
    rw [hh]
    rcases below12 hg with rfl | rfl | rfl | rfl | rfl | rfl | rfl | rfl | rfl | rfl | rfl | rfl <;> kernel_rfl
  refine ⟨⟨e1, ?_⟩, ⟨e2, ?_⟩, ⟨e3, ?_⟩, ⟨e4, ?_⟩, e5, e6⟩
  · unfold crL; rw [if_neg (by rw [e1]; decide)]
  · unfold crL; rw [if_neg (by rw [e2]; decide)]
  · unfold deL; rw [if_pos e3]; rfl
  · unfold crL; rw [if_pos e4]; rfl

/-- The thirteen names, as cells. -/
def abc7 : Array Value := #[.string ⟨#[97]⟩, .string ⟨#[98]⟩, .string ⟨#[99]⟩, .string ⟨#[100]⟩, .string ⟨#[101]⟩, .string ⟨#[102]⟩, .string ⟨#[103]⟩, .string ⟨#[104]⟩, .string ⟨#[105]⟩, .string ⟨#[106]⟩, .string ⟨#[107]⟩, .string ⟨#[108]⟩, .string ⟨#[109]⟩]
theorem abc7_cell {W : World} {N : Nat} {T : TypeId} (h : W.heap[N]? = some (.cells abc7 T (0, 0))) {k : Nat} (hk : k < 13) : W.cell? ⟨N, k, none⟩ = some (.string (tx7 (nm7 k))) := by
  have e : W.cell? ⟨N, k, none⟩ = abc7[k]? := by simp [World.cell?, h]
  rw [e]
  rcases below13 hk with rfl | rfl | rfl | rfl | rfl | rfl | rfl | rfl | rfl | rfl | rfl | rfl | rfl <;> rfl
theorem nm7_size (k : Nat) : (tx7 (nm7 k)).size ≤ 9223372036854775807 := by
  rw [← size_list, tx7_list]; show 1 ≤ _; decide

set_option maxRecDepth 100000 in
set_option maxHeartbeats 4000000 in
theorem full_walk (hash : ByteArray) (x : Nat) (w : World) (hx : x < 256) (hs : hash.size ≤ 9223372036854775807) :
    Calls Try.prog 4 #[.string hash, .int .u8 x] w (Tells5 true w) := by
  have hnot : ∀ (x : Bool) (w : World), (Op.unary .not (.bool x)).run Try.prog w = .ok (.bool (!x)) w := fun _ _ => rfl
  have HV : Hid (∀ W, Calls Try.prog 5 #[] W (Tells5 true W)) := fun W => lives7_calls W
  have HNW : Hid (∀ W, Calls Try.prog 7 #[] W fun e w' => e = .returned (.pointer (some ⟨W.heap.size, 0, none⟩)) ∧ w' = W.alloc (.cells #[.map none] 44)) := fun W => new7_calls W
  by_cases h50 : hash.size > 50
  · have z : (hash.size : Int) > 50 := by omega
    have z' : 50 < hash.size := by omega
    have z2 : decide ((hash.size : Int) > 50) = true := decide_eq_true z
    go_enter Try.func4, Try.ntmps4
    go_wp2_with fail
    with_reducible refine (HV.out w).mono ?_
    rintro e w1 ⟨rfl, hb⟩
    have HB := Lib.hid hb
    clear hb
    go_wp2_with fail
    with_reducible refine (HV.out w1).mono ?_
    rintro e w2 ⟨rfl, hb⟩
    have HB2 := Lib.hid (below_next HB.out hb)
    clear hb
    go_wp2
    go_ret
    exact ⟨rfl, HB2.out⟩
  · have z : ¬ (hash.size : Int) > 50 := by omega
    have z' : ¬ 50 < hash.size := by omega
    have z2 : decide ((hash.size : Int) > 50) = false := decide_eq_false z
    obtain ⟨g, hg⟩ : ∃ g, g = x % 12 := ⟨_, rfl⟩
    have hg12 : g < 12 := by omega
    have hrem : (x : Int).tmod 12 = (g : Int) := by rw [hg]; rfl
    have HG := Lib.hid hg12
    clear hg
    have HLNL : Hid (∀ w1 W B L, Own7 w1 W B L → Calls Try.prog 11 #[.pointer (some ⟨B, 0, none⟩)] W fun e w' => e = .returned (.int .i64 L.length) ∧ w' = W) := fun w1 W B L h => h.len
    have HCR : Hid (∀ w1 W B L k, Own7 w1 W B L → Calls Try.prog 8 #[.pointer (some ⟨B, 0, none⟩), .string (tx7 (nm7 k)), .string hash] W (Deed7 w1 W B (crE L (nm7 k) hash.data.toList) (crL L (nm7 k) hash.data.toList))) := fun w1 W B L k h => by
      have := h.create (tx7 (nm7 k)) hash (nm7_size k) hs
      rwa [tx7_list] at this
    have HSE : Hid (∀ w1 W B L k, Own7 w1 W B L → Calls Try.prog 13 #[.pointer (some ⟨B, 0, none⟩), .string (tx7 (nm7 k)), .string hash] W (Deed7 w1 W B (seE L (nm7 k) hash.data.toList) (seL L (nm7 k) hash.data.toList))) := fun w1 W B L k h => by
      have := h.sethash (tx7 (nm7 k)) hash (nm7_size k) hs
      rwa [tx7_list] at this
    have HDE : Hid (∀ w1 W B L k, Own7 w1 W B L → Calls Try.prog 12 #[.pointer (some ⟨B, 0, none⟩), .string (tx7 (nm7 k))] W (Deed7 w1 W B (deE L (nm7 k)) (deL L (nm7 k)))) := fun w1 W B L k h => by
      have := h.delete (tx7 (nm7 k)) (nm7_size k)
      rwa [tx7_list] at this
    have hm12 : tx7 (nm7 12) = ⟨#[109]⟩ := rfl
    have HM12 := Lib.hid hm12
    clear hm12
    generalize hash.data.toList = h at *
    have HQ : Hid (∀ b, hash5 h = b → (b = true → ∀ k, k < 12 → crE (full7 k h) (nm7 k) h = 0 ∧ crL (full7 k h) (nm7 k) h = full7 (k + 1) h) ∧ (b = false → crE (full7 0 h) (nm7 0) h = 4 ∧ crL (full7 0 h) (nm7 0) h = [])) := fun b hb =>
      ⟨fun e k hk => full_step (by rw [hb, e]) hk, fun e => full_bad (by rw [hb, e])⟩
    obtain ⟨b, hb5⟩ : ∃ b, hash5 h = b := ⟨_, rfl⟩
    obtain ⟨q1, q2⟩ := HQ.out b hb5
    have HQ1 := Lib.hid q1
    have HQ2 := Lib.hid q2
    have HB5 := Lib.hid hb5
    clear q1 q2 HQ hb5
    go_enter Try.func4, Try.ntmps4
    go_wp2_with fail
    with_reducible refine (HV.out w).mono ?_
    rintro e w1 ⟨rfl, hb⟩
    have HB := Lib.hid hb
    clear hb HV
    go_wp2_with fail
    with_reducible refine (HNW.out w1).mono ?_
    rintro e w2 ⟨rfl, rfl⟩
    have HO := Lib.hid (own7_new w1)
    generalize w1.alloc (.cells #[.map none] 44) = w2 at *
    generalize hBB : w1.heap.size = B at *
    have HBB := Lib.hid hBB
    clear hBB HNW
    have HN0 : Hid ((w2.alloc (.cells #[.string ⟨#[97]⟩, .string ⟨#[98]⟩, .string ⟨#[99]⟩, .string ⟨#[100]⟩, .string ⟨#[101]⟩, .string ⟨#[102]⟩, .string ⟨#[103]⟩, .string ⟨#[104]⟩, .string ⟨#[105]⟩, .string ⟨#[106]⟩, .string ⟨#[107]⟩, .string ⟨#[108]⟩, .string ⟨#[109]⟩] 9)).heap[w2.heap.size]? = some (.cells abc7 9 (0, 0))) := (MapKept.heap_alloc w2 _).1
    have HO2 := Lib.hid (HO.out.later (below_alloc (Below.refl w2.heap.size w2) (.cells #[.string ⟨#[97]⟩, .string ⟨#[98]⟩, .string ⟨#[99]⟩, .string ⟨#[100]⟩, .string ⟨#[101]⟩, .string ⟨#[102]⟩, .string ⟨#[103]⟩, .string ⟨#[104]⟩, .string ⟨#[105]⟩, .string ⟨#[106]⟩, .string ⟨#[107]⟩, .string ⟨#[108]⟩, .string ⟨#[109]⟩] 9)))
    clear HO
    go_wp2
    generalize w2.alloc (.cells #[.string ⟨#[97]⟩, .string ⟨#[98]⟩, .string ⟨#[99]⟩, .string ⟨#[100]⟩, .string ⟨#[101]⟩, .string ⟨#[102]⟩, .string ⟨#[103]⟩, .string ⟨#[104]⟩, .string ⟨#[105]⟩, .string ⟨#[106]⟩, .string ⟨#[107]⟩, .string ⟨#[108]⟩, .string ⟨#[109]⟩] 9) = w3 at *
    generalize w2.heap.size = N at *
    go_loopg [7, 8, 9, 24] 12 (fun gg _ _ _ s24 wr => ∃ k : Nat, k ≤ 12 ∧ 12 - k ≤ gg ∧ s24 = .int .i64 k ∧ Hid (b = false → k = 0) ∧ Hid (Own7 w1 wr B (full7 k h)) ∧ Hid (wr.heap[N]? = some (.cells abc7 9 (0, 0))))
    case atStart => exact ⟨0, by omega, by omega, rfl, fun _ => rfl, HO2.out, HN0.out⟩
    case round =>
      obtain ⟨k, hk, hgg, rfl, HF, HW, HN⟩ := hrel
      by_cases hlt : k < 12
      · have hltz : (k : Int) < 12 := by omega
        have hcell := abc7_cell HN.out (show k < 13 by omega)
        have HC := Lib.hid (HCR.out w1 wr B _ k HW.out)
        cases b with
        | true =>
          obtain ⟨q1, q2⟩ := HQ1.out rfl k hlt
          rw [q1, q2] at HC
          clear q1 q2
          generalize tx7 (nm7 k) = nk at *
          go_wp2_with (go_at_call 8; (with_reducible refine HC.out.mono ?_); rintro e w4 ⟨rfl, ho, hkp⟩; have HO4 := Lib.hid ho; have HK4 := Lib.hid (hkp _ _ _ _ HN.out (by decide)); clear ho hkp)
          go_roundg (12 - (k + 1))
          case measure => omega
          case rel => exact ⟨k + 1, by omega, by omega, by go_num, (fun h => nomatch h), HO4, HK4⟩
        | false =>
          obtain rfl : k = 0 := HF.out rfl
          obtain ⟨q1, q2⟩ := HQ2.out rfl
          rw [q1, q2] at HC
          clear q1 q2
          have hz0 : ((0 : Nat) : Int) = 0 := rfl
          generalize tx7 (nm7 0) = nk at *
          go_wp2_with (first
            | (go_at_call 8; (with_reducible refine HC.out.mono ?_); rintro e w4 ⟨rfl, ho, _⟩; have HO4 := Lib.hid ho; have HL4 := Lib.hid (HLNL.out w1 w4 B _ ho); clear ho)
            | (go_at_call 11; (with_reducible refine HL4.out.mono ?_); rintro e w5 ⟨rfl, rfl⟩))
          go_ret
          exact ⟨rfl, below_next HB.out HO4.out.below⟩
      · have hltz : ¬ (k : Int) < 12 := by omega
        obtain rfl : k = 12 := by omega
        cases b with
        | false => exact absurd (HF.out rfl) (by decide)
        | true =>
        have hend := full_end HB5.out HG.out
        have HE := Lib.hid hend
        clear hend
        have hcell := abc7_cell HN.out (show g < 13 by omega)
        have HC1 : Hid (∀ W, Own7 w1 W B (full7 12 h) → Calls Try.prog 8 #[.pointer (some ⟨B, 0, none⟩), .string ⟨#[109]⟩, .string hash] W (Deed7 w1 W B 7 (full7 12 h))) := fun W ho => by
          have := HCR.out w1 W B _ 12 ho
          rwa [HE.out.1.1, HE.out.1.2, HM12.out] at this
        have HC2 : Hid (∀ W, Own7 w1 W B (full7 12 h) → Calls Try.prog 8 #[.pointer (some ⟨B, 0, none⟩), .string (tx7 (nm7 g)), .string hash] W (Deed7 w1 W B 9 (full7 12 h))) := fun W ho => by
          have := HCR.out w1 W B _ g ho
          rwa [HE.out.2.1.1, HE.out.2.1.2] at this
        have HC3 : Hid (∀ W, Own7 w1 W B (full7 12 h) → Calls Try.prog 12 #[.pointer (some ⟨B, 0, none⟩), .string (tx7 (nm7 g))] W (Deed7 w1 W B 0 (gone7 g h))) := fun W ho => by
          have := HDE.out w1 W B _ g ho
          rwa [HE.out.2.2.1.1, HE.out.2.2.1.2] at this
        have HC4 : Hid (∀ W, Own7 w1 W B (gone7 g h) → Calls Try.prog 8 #[.pointer (some ⟨B, 0, none⟩), .string ⟨#[109]⟩, .string hash] W (Deed7 w1 W B 0 (anew7 g h))) := fun W ho => by
          have := HCR.out w1 W B _ 12 ho
          rwa [HE.out.2.2.2.1.1, HE.out.2.2.2.1.2, HM12.out] at this
        have HC5 : Hid (∀ W, Own7 w1 W B (anew7 g h) → Calls Try.prog 11 #[.pointer (some ⟨B, 0, none⟩)] W fun e w' => e = .returned (.int .i64 12) ∧ w' = W) := fun W ho => by
          have := HLNL.out w1 W B _ ho
          rwa [HE.out.2.2.2.2.1] at this
        have HC6 : Hid (∀ W, Own7 w1 W B (anew7 g h) → Calls Try.prog 13 #[.pointer (some ⟨B, 0, none⟩), .string (tx7 (nm7 g)), .string hash] W (Deed7 w1 W B 8 (seL (anew7 g h) (nm7 g) h))) := fun W ho => by
          have := HSE.out w1 W B _ g ho
          rwa [HE.out.2.2.2.2.2] at this
        clear HCR HSE HDE HLNL HE HQ1 HQ2 HB5 HN HF HM12
        generalize seL (anew7 g h) (nm7 g) h = L6 at *
        generalize anew7 g h = L5 at *
        generalize gone7 g h = L4 at *
        generalize full7 12 h = L3 at *
        generalize tx7 (nm7 g) = ng at *
        go_wp2_with fail
        with_reducible refine (HC1.out wr HW.out).mono ?_
        rintro e w4 ⟨rfl, ho, hkp⟩
        have HO4 := Lib.hid ho
        clear ho hkp HC1 HW
        go_wp2_with fail
        with_reducible refine (HC2.out w4 HO4.out).mono ?_
        rintro e w5 ⟨rfl, ho, hkp⟩
        have HO5 := Lib.hid ho
        clear ho hkp HC2 HO4
        go_wp2_with fail
        with_reducible refine (HC3.out w5 HO5.out).mono ?_
        rintro e w6 ⟨rfl, ho, hkp⟩
        have HO6 := Lib.hid ho
        clear ho hkp HC3 HO5
        go_wp2_with fail
        with_reducible refine (HC4.out w6 HO6.out).mono ?_
        rintro e w7 ⟨rfl, ho, hkp⟩
        have HO7 := Lib.hid ho
        clear ho hkp HC4 HO6
        go_wp2_with fail
        with_reducible refine (HC5.out w7 HO7.out).mono ?_
        rintro e w8 ⟨rfl, rfl⟩
        clear HC5
        go_wp2_with fail
        with_reducible refine (HC6.out _ HO7.out).mono ?_
        rintro e w9 ⟨rfl, ho, hkp⟩
        have HO9 := Lib.hid ho
        clear ho hkp HC6 HO7
        go_wp2
        go_ret
        exact ⟨rfl, below_next HB.out HO9.out.below⟩
end Go.Proofs.Ytclnkboejbnfnaa
