/-
  The texts that the laws of this seat share, part 10: what the code and the document's own answers tell, walked function by function.
  Conditions: each theorem's own.
-/
import Derived.Test.YthlgmkfofebbfaaGreatDoorNwrBaseA
import Derived.Test.YthlgmkfofebbfaaGreatDoorNwrBaseB
import Derived.Test.YthlgmkfofebbfaaGreatDoorNwrBaseC
import Derived.Test.YthlgmkfofebbfaaGreatDoorNwrBaseD
import Derived.Test.YthlgmkfofebbfaaGreatDoorNwrBaseE
import Derived.Test.YthlgmkfofebbfaaGreatDoorNwrBaseF
import Derived.Test.YthlgmkfofebbfaaGreatDoorNwrBaseG
import Derived.Test.YthlgmkfofebbfaaGreatDoorNwrBaseH
import Derived.Test.YthlgmkfofebbfaaGreatDoorNwrBaseI
namespace Go.Proofs.YthlgmkfofebbfaaGreatDoor
open Go.ChangeShapes Go.WideShapes Go.ChangeAt Go.RowKit Go.Deep

structure ActN where
 kd : Nat
 nm : ByteArray
 hs : ByteArray
 is_ : Bool
def ActN.cells (t : ActN) : List Value := [.int .u8 (t.kd : Int), .string t.nm, .string t.hs, .bool t.is_]
def RdAN (w : World) (A : Option Addr) (l : List ActN) : Prop :=
 l ≠ [] → ∃ b off, A = some ⟨b, off, none⟩ ∧ b < w.heap.size ∧ ∀ i (hi : i < l.length) j u, l[i].cells[j]? = some u → w.cell? ⟨b, off + i * 4 + j, none⟩ = some u
theorem RdAN.later {w w' : World} {A : Option Addr} {l : List ActN} (h : RdAN w A l) (hb : Below w.heap.size w w') : RdAN w' A l := fun hl => by
 obtain ⟨b, off, rfl, hlt, hc⟩ := h hl
 exact ⟨b, off, rfl, Nat.lt_of_lt_of_le hlt hb.size, fun i hi j u hu => (hb.cell (p := ⟨b, off + i * 4 + j, none⟩) hlt).trans (hc i hi j u hu)⟩
def IsActsN (w : World) (A : Option Addr) (len : Nat) (l : List ActN) : Prop := len = l.length ∧ l.length ≤ 9223372036854775807 ∧ RdAN w A l ∧ ∀ t ∈ l, t.kd < 256 ∧ t.nm.size ≤ 9223372036854775807 ∧ t.hs.size ≤ 9223372036854775807

theorem cellsOfU8n : Tryz.prog.cellsOf 5 = 1 := by kernel_rfl
theorem cellsOfStrn : Tryz.prog.cellsOf 9 = 1 := by kernel_rfl
theorem cellsOfBooln : Tryz.prog.cellsOf 4 = 1 := by kernel_rfl
theorem cellsOfActn : Tryz.prog.cellsOf 32 = 4 := by kernel_rfl
theorem pick_actn (d : ActN) {φ : Nat → ActN → Prop} {m : Nat} (h : ∀ i, i < m → ∃ t, φ i t) : ∃ T : Nat → ActN, ∀ i, i < m → φ i (T i) := by
 refine ⟨fun i => if hi : i < m then Classical.choose (h i hi) else d, fun i hi => ?_⟩
 have : (if hi : i < m then Classical.choose (h i hi) else d) = Classical.choose (h i hi) := dif_pos hi
 show φ i (if hi : i < m then Classical.choose (h i hi) else d)
 rw [this]
 exact Classical.choose_spec (h i hi)
section
variable {H : Type} {enc : TypeId × Value → H} {W : World} {base : Nat} {sp : Nat → Bool} {hd : Bool} {fuel : Nat}
set_option maxRecDepth 100000 in
theorem actn_of {cs : List Value} {x : DataW H × List MemPlace} (h : DataW.trod enc Tryz.prog W base sp hd fuel 32 cs = some x) :
  ∃ t : ActN, cs = t.cells ∧ t.kd < 256 ∧ t.nm.size ≤ 9223372036854775807 ∧ t.hs.size ≤ 9223372036854775807 := by
 obtain ⟨ys, n, _, _, hlen, hyl, hf⟩ := DataW.trod_struct Tryz.underlying32 h
 rw [cellsOfActn] at hlen
 match cs, hlen, ys, hyl with
 | [c0, c1, c2, c3], _, [y0, y1, y2, y3], _ =>
  have f0 : DataW.trod enc Tryz.prog W base sp hd n 5 (([c0, c1, c2, c3].drop 0).take (Tryz.prog.cellsOf 5)) = some y0 := hf 0 _ rfl
  have f1 : DataW.trod enc Tryz.prog W base sp hd n 9 (([c0, c1, c2, c3].drop 1).take (Tryz.prog.cellsOf 9)) = some y1 := hf 1 _ rfl
  have f2 : DataW.trod enc Tryz.prog W base sp hd n 9 (([c0, c1, c2, c3].drop 2).take (Tryz.prog.cellsOf 9)) = some y2 := hf 2 _ rfl
  have f3 : DataW.trod enc Tryz.prog W base sp hd n 4 (([c0, c1, c2, c3].drop 3).take (Tryz.prog.cellsOf 4)) = some y3 := hf 3 _ rfl
  rw [cellsOfBooln] at f3
  rw [cellsOfU8n] at f0
  rw [cellsOfStrn] at f1 f2
  obtain ⟨kd, e0, _, w0⟩ := DataW.trod_int Tryz.underlying5 f0
  obtain ⟨nm, e1, _, w1⟩ := DataW.trod_string Tryz.underlying9 f1
  obtain ⟨hs, e2, _, w2⟩ := DataW.trod_string Tryz.underlying9 f2
  obtain ⟨is_, e3, _⟩ := DataW.trod_bool Tryz.underlying4 f3
  simp only [List.drop_zero, List.drop_succ_cons, List.take_succ_cons, List.take_zero, List.cons.injEq, and_true] at e0 e1 e2 e3
  subst e0 e1 e2 e3
  have b0 := bounds_u8 w0
  obtain ⟨kn, rfl⟩ := Int.eq_ofNat_of_zero_le b0.1
  exact ⟨⟨kn, nm, hs, is_⟩, rfl, by show kn < 256; omega, Nat.le_trans w1 (by decide), Nat.le_trans w2 (by decide)⟩

set_option maxRecDepth 100000 in
theorem actns_of {a : Option Addr} {len cap : Nat} {d : DataW H} {p : List MemPlace} (h : DataW.Trod enc Tryz.prog W base sp hd 22 (.slice a len cap) d p) : ∃ l, IsActsN W a len l := by
 obtain ⟨fuel, hf⟩ := h
 rcases open_slice Tryz.underlying22 hf with ⟨hcs, _⟩ | ⟨x, l, c, m, n, D, Pl, hcs, _, hl, hm, hmm, _, hi⟩
 ·
  simp [Value.cells] at hcs
  obtain ⟨rfl, rfl, rfl⟩ := hcs
  exact ⟨[], rfl, by simp, fun h => absurd rfl h, by simp⟩
 ·
  simp [Value.cells] at hcs
  obtain ⟨rfl, rfl, rfl⟩ := hcs
  have hlm : len ≤ m := by rw [hmm]; split <;> omega
  rw [cellsOfActn] at hi
  have hex : ∀ i, i < m → ∃ t : ActN, (∀ j, j < 4 → W.cell? ((x.add (i * 4)).add j) = t.cells[j]?) ∧ t.kd < 256 ∧ t.nm.size ≤ 9223372036854775807 ∧ t.hs.size ≤ 9223372036854775807 := by
   intro i him
   obtain ⟨cs', hc, ht'⟩ := hi i him
   obtain ⟨t, rfl, hrest⟩ := actn_of ht'
   exact ⟨t, (World.cells?_some hc).2.2, hrest⟩
  obtain ⟨T, hT⟩ := pick_actn ⟨0, ⟨#[]⟩, ⟨#[]⟩, false⟩ hex
  refine ⟨(List.range len).map T, by simp, by simpa [maxLen] using Nat.le_trans hl hm, fun hne => ?_, fun t ht => ?_⟩
  ·
   have hp : 0 < len := by
    rcases Nat.eq_zero_or_pos len with h | h
    ·
     subst h; simp at hne
    ·
     exact h
   have hc0 := (hT 0 (by omega)).1 0 (by omega)
   have h00 : (T 0).cells[0]? = some (.int .u8 (T 0).kd) := rfl
   rw [h00, Nat.zero_mul] at hc0
   have hx : x = ⟨x.block, x.off, none⟩ := by
    have hs : x.spot = none := World.cell?_spot hc0
    rw [← hs]
   refine ⟨x.block, x.off, by rw [← hx], ?_, fun i hi' j u hu => ?_⟩
   ·
    exact World.block_lt_of_cell? W _ hc0
   ·
    rw [List.length_map, List.length_range] at hi'
    have e : ((List.range len).map T)[i]'(by simpa using hi') = T i := by simp
    rw [e] at hu
    have hj : j < 4 := (List.getElem?_eq_some_iff.1 hu).1
    have := (hT i (by omega)).1 j hj
    rw [hx, Addr.add_lit, Addr.add_lit] at this
    exact this.trans hu
  ·
   obtain ⟨i, hi', rfl⟩ := List.mem_map.1 ht
   rw [List.mem_range] at hi'
   exact (hT i (by omega)).2
end
end Go.Proofs.YthlgmkfofebbfaaGreatDoor


namespace Go.Proofs.YthlgmkfofebbfaaGreatDoor
open Go.RowKit Go.Maps

def littleL11 (t : ActN) : Bool := decide (t.nm.size ≤ 50) && decide (t.hs.size ≤ 50)
def few11L (l : List ActN) : Bool := l.all littleL11 && decide (l.length ≤ 60)

set_option maxRecDepth 100000 in
set_option maxHeartbeats 1000000 in
theorem few11L_calls (A : Option Addr) (c n : Nat) (l : List ActN) (w : World) (hl : n = l.length) (hn : n ≤ 9223372036854775807) (hr : RdAN w A l) :
  Calls Tryz.prog 8 #[.slice A n c] w (Tells5 (few11L l) w) := by
 have HR := Lib.hid hr
 have HL := Lib.hid hl
 clear hr hl
 obtain ⟨r, hr⟩ : ∃ r, r = few11L l := ⟨_, rfl⟩
 rw [← hr]
 have HRR := Lib.hid hr
 clear hr
 go_enter Tryz.func8, Tryz.ntmps8
 go_wp2
 go_loopg [4, 7] n (fun gg _ s7 wr => ∃ k : Nat, k ≤ n ∧ n - k ≤ gg ∧ s7 = .int .i64 k ∧ Hid (Below w.heap.size w wr) ∧ Hid (∀ j (h : j < l.length), j < k → littleL11 l[j] = true))
 case atStart => exact ⟨0, Nat.zero_le _, by omega, rfl, Below.refl _ _, fun j _ hj => absurd hj (Nat.not_lt_zero _)⟩
 case round =>
  obtain ⟨k, hk, hg, rfl, HW, A0⟩ := hrel
  by_cases hlt : k < n
  ·
   have hltz : (k : Int) < (n : Int) := by omega
   have hkl : k < l.length := HL.out ▸ hlt
   obtain ⟨b, off, rfl, hb, hc⟩ := (HR.out.later HW.out) (by intro e; rw [e] at hkl; exact absurd hkl (Nat.not_lt_zero _))
   have c0 : wr.cell? ⟨b, off + k * 4, none⟩ = some (.int .u8 (l[k].kd : Int)) := hc k hkl 0 _ rfl
   have c1 : wr.cell? ⟨b, off + k * 4 + 1, none⟩ = some (.string l[k].nm) := hc k hkl 1 _ rfl
   have c2 : wr.cell? ⟨b, off + k * 4 + 2, none⟩ = some (.string l[k].hs) := hc k hkl 2 _ rfl
   have c3 : wr.cell? ⟨b, off + k * 4 + 3, none⟩ = some (.bool l[k].is_) := hc k hkl 3 _ rfl
   have HX : Hid (littleL11 l[k] = true → ∀ j (h : j < l.length), j < k + 1 → littleL11 l[j] = true) := fun hq j h hj => by
    by_cases e : j = k
    ·
     subst e; exact hq
    ·
     exact A0.out j h (by omega)
   have HF : Hid (littleL11 l[k] = false → r = false) := fun hf => by
    rw [HRR.out]
    have : l.all littleL11 = false := List.all_eq_false.2 ⟨l[k], List.getElem_mem hkl, by rw [hf]; simp⟩
    unfold few11L
    rw [this]; rfl
   have HB3 := Lib.hid (below_next HW.out (below_alloc (Below.refl wr.heap.size wr) (.cells #[.int .u8 (l[k].kd : Int), .string l[k].nm, .string l[k].hs, .bool l[k].is_] 32)))
   unfold littleL11 at HX HF
   clear hc hb A0
   generalize l[k].kd = kd at *
   generalize l[k].nm = nm at *
   generalize l[k].hs = hs at *
   generalize l[k].is_ = is_ at *
   by_cases h1 : nm.size ≤ 50
   ·
    by_cases h2 : hs.size ≤ 50
    ·
     have HY := Lib.hid (HX.out (by simp [h1, h2]))
     have z1 : ¬ (nm.size : Int) > 50 := by omega
     have z2 : ¬ (hs.size : Int) > 50 := by omega
     have y1 : ¬ 50 < nm.size := by omega
     have y2 : ¬ 50 < hs.size := by omega
     have x1 : decide ((nm.size : Int) > 50) = false := decide_eq_false z1
     have x2 : decide ((hs.size : Int) > 50) = false := decide_eq_false z2
     clear HX HF
     go_wp2
     go_roundg (n - (k + 1))
     case measure => omega
     case rel => exact ⟨k + 1, by omega, by omega, by go_num, HB3, HY⟩
    ·
     have hr : r = false := HF.out (by simp [h2])
     subst hr
     have z1 : ¬ (nm.size : Int) > 50 := by omega
     have z2 : (hs.size : Int) > 50 := by omega
     have y1 : ¬ 50 < nm.size := by omega
     have y2 : 50 < hs.size := by omega
     have x1 : decide ((nm.size : Int) > 50) = false := decide_eq_false z1
     have x2 : decide ((hs.size : Int) > 50) = true := decide_eq_true z2
     clear HX HF
     go_wp2
     go_ret
     exact ⟨rfl, HB3.out⟩
   ·
    have hr : r = false := HF.out (by simp [h1])
    subst hr
    have z1 : (nm.size : Int) > 50 := by omega
    have y1 : 50 < nm.size := by omega
    have x1 : decide ((nm.size : Int) > 50) = true := decide_eq_true z1
    clear HX HF
    go_wp2
    go_ret
    exact ⟨rfl, HB3.out⟩
  ·
   have hltz : ¬ (k : Int) < (n : Int) := by omega
   obtain rfl : k = n := by omega
   have hr0 : r = decide (k ≤ 60) := by
    rw [HRR.out]
    have : l.all littleL11 = true := by
     rw [List.all_eq_true]
     intro x hx
     obtain ⟨j, hj, rfl⟩ := List.getElem_of_mem hx
     exact A0.out j hj (by have := HL.out; omega)
    unfold few11L
    rw [this, ← HL.out]; rfl
   have HZ := Lib.hid hr0
   clear A0 hr0
   by_cases h60 : k ≤ 60
   ·
    have z : (k : Int) ≤ 60 := by omega
    go_wp2
    go_ret
    exact ⟨by rw [HZ.out, decide_eq_true h60]; rfl, HW.out⟩
   ·
    have z : ¬ (k : Int) ≤ 60 := by omega
    go_wp2
    go_ret
    exact ⟨by rw [HZ.out, decide_eq_false h60]; rfl, HW.out⟩


theorem few11L_len {l : List ActN} (h : few11L l = true) : l.length ≤ 60 := by
 unfold few11L at h
 simp only [Bool.and_eq_true, decide_eq_true_eq] at h
 exact h.2
theorem few11L_size {l : List ActN} (h : few11L l = true) : ∀ t ∈ l, t.nm.size ≤ 50 ∧ t.hs.size ≤ 50 := by
 unfold few11L at h
 simp only [Bool.and_eq_true] at h
 intro t ht
 have := List.all_eq_true.1 h.1 t ht
 unfold littleL11 at this
 simpa using this
def ann11 : List UInt8 := [97, 110, 110]
def bob11 : List UInt8 := [98, 111, 98]
theorem ex11_1 : crE11 [] ann11 [49] = 0 ∧ crA11 [] ann11 [49] = [(ann11, ([49], false))] := by decide +kernel
theorem ex11_2 : smE11 [(ann11, ([49], false))] [] ann11 [65, 64, 98, 46, 99] = 0 ∧ smL11 [(ann11, ([49], false))] [] ann11 [65, 64, 98, 46, 99] = [(ann11, [97, 64, 98, 46, 99])] := by decide +kernel
theorem ex11_3 : rnE11 [(ann11, ([49], false))] ann11 bob11 = 0 ∧ rnA11 [(ann11, ([49], false))] ann11 bob11 = [(bob11, ([49], false))] ∧ rnL11 [(ann11, ([49], false))] [(ann11, [97, 64, 98, 46, 99])] ann11 bob11 = [(bob11, [97, 64, 98, 46, 99])] ∧ rnS11 [(ann11, ([49], false))] [] ann11 bob11 = [] := by decide +kernel
theorem ex11_4 : fiE9 [(bob11, [97, 64, 98, 46, 99])] [97, 64, 98, 46, 99] = 0 ∧ fiS9 [(bob11, [97, 64, 98, 46, 99])] [97, 64, 98, 46, 99] = bob11 := by decide +kernel
set_option maxRecDepth 100000 in
set_option maxHeartbeats 2000000 in
theorem lives11_calls (w : World) (h5 : Len5 w) : Calls Tryz.prog 7 #[] w (Tells5 true w) := by
 have HN := Lib.hid (nnew11_calls w)
 have HC1 : Hid (∀ W D P M G, Own11 w W D P M G [] [] [] → Calls Tryz.prog 27 #[.pointer (some ⟨D, 0, none⟩), .string ⟨#[97, 110, 110]⟩, .string ⟨#[49]⟩] W fun e w' => e = .returned (.int .i64 0) ∧ Own11 w w' D P M G [(ann11, ([49], false))] [] []) := fun W D P M G h => by
  have := create11_calls ⟨#[97, 110, 110]⟩ ⟨#[49]⟩ h Good11.nil (by decide) (by decide)
  rw [show crE11 [] (ByteArray.mk #[97, 110, 110]).data.toList (ByteArray.mk #[49]).data.toList = 0 from ex11_1.1, show crA11 [] (ByteArray.mk #[97, 110, 110]).data.toList (ByteArray.mk #[49]).data.toList = _ from ex11_1.2] at this
  exact this.mono fun e w' ⟨he, hgo⟩ => ⟨he, hgo.1⟩
 have HC2 : Hid (∀ W D P M G, Own11 w W D P M G [(ann11, ([49], false))] [] [] → Calls Tryz.prog 28 #[.pointer (some ⟨D, 0, none⟩), .string ⟨#[97, 110, 110]⟩, .string ⟨#[65, 64, 98, 46, 99]⟩] W fun e w' => e = .returned (.int .i64 0) ∧ Own11 w w' D P M G [(ann11, ([49], false))] [(ann11, [97, 64, 98, 46, 99])] []) := fun W D P M G h => by
  have := setMail11_calls ⟨#[97, 110, 110]⟩ ⟨#[65, 64, 98, 46, 99]⟩ h (by decide) (h5.later h.below) (by decide) (by decide)
  rw [show smE11 [(ann11, ([49], false))] [] (ByteArray.mk #[97, 110, 110]).data.toList (ByteArray.mk #[65, 64, 98, 46, 99]).data.toList = 0 from ex11_2.1, show smL11 [(ann11, ([49], false))] [] (ByteArray.mk #[97, 110, 110]).data.toList (ByteArray.mk #[65, 64, 98, 46, 99]).data.toList = _ from ex11_2.2] at this
  exact this.mono fun e w' ⟨he, hgo⟩ => ⟨he, hgo.1⟩
 have hg1 : Good11 [(ann11, ([49], false))] [] [] 1 := by
  have := (cr_one Good11.nil ann11 [49]).1
  rwa [ex11_1.2] at this
 have hg2 : Good11 [(ann11, ([49], false))] [(ann11, [97, 64, 98, 46, 99])] [] 2 := by
  have := (sm_one hg1 ann11 [65, 64, 98, 46, 99]).1
  rwa [ex11_2.2] at this
 have HC3 : Hid (∀ W D P M G, Own11 w W D P M G [(ann11, ([49], false))] [(ann11, [97, 64, 98, 46, 99])] [] → Calls Tryz.prog 29 #[.pointer (some ⟨D, 0, none⟩), .string ⟨#[97, 110, 110]⟩, .string ⟨#[98, 111, 98]⟩] W fun e w' => e = .returned (.int .i64 0) ∧ Own11 w w' D P M G [(bob11, ([49], false))] [(bob11, [97, 64, 98, 46, 99])] []) := fun W D P M G h => by
  have := rename11_calls ⟨#[97, 110, 110]⟩ ⟨#[98, 111, 98]⟩ h hg2 (by decide) (by decide) (by decide)
  rw [show rnE11 [(ann11, ([49], false))] (ByteArray.mk #[97, 110, 110]).data.toList (ByteArray.mk #[98, 111, 98]).data.toList = 0 from ex11_3.1, show rnA11 [(ann11, ([49], false))] (ByteArray.mk #[97, 110, 110]).data.toList (ByteArray.mk #[98, 111, 98]).data.toList = _ from ex11_3.2.1, show rnL11 [(ann11, ([49], false))] [(ann11, [97, 64, 98, 46, 99])] (ByteArray.mk #[97, 110, 110]).data.toList (ByteArray.mk #[98, 111, 98]).data.toList = _ from ex11_3.2.2.1, show rnS11 [(ann11, ([49], false))] [] (ByteArray.mk #[97, 110, 110]).data.toList (ByteArray.mk #[98, 111, 98]).data.toList = _ from ex11_3.2.2.2] at this
  exact this.mono fun e w' ⟨he, hgo⟩ => ⟨he, hgo.1⟩
 have HC4 : Hid (∀ W D P M G, Own11 w W D P M G [(bob11, ([49], false))] [(bob11, [97, 64, 98, 46, 99])] [] → Calls Tryz.prog 14 #[.pointer (some ⟨D, 0, none⟩), .string ⟨#[97, 64, 98, 46, 99]⟩] W fun e w' => e = .returned (.tuple #[.string ⟨#[98, 111, 98]⟩, .int .i64 0]) ∧ Below W.heap.size W w') := fun W D P M G h => by
  have := nfind11_calls ⟨#[97, 64, 98, 46, 99]⟩ h (by decide) (h5.later h.below)
  rw [show fiE9 [(bob11, [97, 64, 98, 46, 99])] (ByteArray.mk #[97, 64, 98, 46, 99]).data.toList = 0 from ex11_4.1, show fiS9 [(bob11, [97, 64, 98, 46, 99])] (ByteArray.mk #[97, 64, 98, 46, 99]).data.toList = bob11 from ex11_4.2] at this
  exact this
 clear h5 hg1 hg2
 go_enter Tryz.func7, Tryz.ntmps7
 go_wp2_with fail
 with_reducible refine HN.out.mono ?_
 rintro e w1 ⟨D, P, M, G, rfl, ho⟩
 have HO1 := Lib.hid ho
 clear ho HN
 go_wp2_with fail
 with_reducible refine (HC1.out w1 D P M G HO1.out).mono ?_
 rintro e w2 ⟨rfl, ho⟩
 have HO2 := Lib.hid ho
 clear ho HC1 HO1
 go_wp2_with fail
 with_reducible refine (HC2.out w2 D P M G HO2.out).mono ?_
 rintro e w3 ⟨rfl, ho⟩
 have HO3 := Lib.hid ho
 clear ho HC2 HO2
 go_wp2_with fail
 with_reducible refine (HC3.out w3 D P M G HO3.out).mono ?_
 rintro e w4 ⟨rfl, ho⟩
 have HO4 := Lib.hid ho
 clear ho HC3 HO3
 go_wp2_with fail
 with_reducible refine (HC4.out w4 D P M G HO4.out).mono ?_
 rintro e w5 ⟨rfl, hb⟩
 have HB := Lib.hid (below_next HO4.out.below hb)
 clear hb HC4 HO4
 go_wp2
 go_ret
 exact ⟨rfl, HB.out⟩
def Loop11 (w0 : World) (D P M G Wb k : Nat) (wr : World) : Prop :=
 ∃ A L S R A1 C1 A2 C2, Own11 w0 wr D P M G A L S ∧ Good11 A L S k ∧ Bx11 wr Wb (.slice A1 (List.length R) C1) (.slice A2 (List.length (names10 S)) C2) ∧ Rc11 0 R wr (.slice A1 (List.length R) C1) ∧ NmR wr (.slice A2 (List.length (names10 S)) C2) (names10 S) ∧ plainR R = tell11 A L S
theorem loop11_later {w0 W W' : World} {D P M G Wb k : Nat} (h : Loop11 w0 D P M G Wb k W) (hb : Below W.heap.size W W') : Loop11 w0 D P M G Wb k W' := by
 obtain ⟨A, L, S, R, A1, C1, A2, C2, ho, hg, hx, hr, hn, hp⟩ := h
 exact ⟨A, L, S, R, A1, C1, A2, C2, ho.later hb, hg, hx.later hb, hr.later hb, hn.later hb, hp⟩
end Go.Proofs.YthlgmkfofebbfaaGreatDoor

