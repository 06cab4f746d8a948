/-
  AdvertAll walked: all have a release just if each was noted last with all its bits.
  Conditions: none.
-/
import Derived.Test.YtkcddihigagknaaAdvK
import Derived.Test.YtkcddihigagknaaInv
namespace Go.Proofs.Ytkcddihigagknaa
open Go.RowKit

/-- The code's board, and what was noted last. -/
structure StA16 (w W : World) (B A c S q : Nat) (L : List UInt8) (f : Nat → Nat) : Prop where
  bd : Bd16 W B A c L
  map : Last16 W S q f
  eq : ∀ i, i < L.length → of16 L i = f i
  lt : w.heap.size ≤ A ∧ w.heap.size ≤ B ∧ w.heap.size ≤ S
  bel : Below w.heap.size w W
theorem Last16.ne_board {W : World} {B A c S q : Nat} {L : List UInt8} {f : Nat → Nat} (h : Last16 W S q f) (hb : Bd16 W B A c L) : S ≠ A ∧ S ≠ B := by
  obtain ⟨D, ⟨es, clock, h1, _⟩, _⟩ := h
  constructor
  · rintro rfl
    obtain ⟨cur, h2, _⟩ := hb.row
    rw [h1] at h2
    cases h2
  · rintro rfl
    have h2 := hb.blk
    rw [h1] at h2
    cases h2
theorem StA16.later {w W W' : World} {B A c S q : Nat} {L : List UInt8} {f : Nat → Nat} (h : StA16 w W B A c S q L f) (hb : Below W.heap.size W W') : StA16 w W' B A c S q L f :=
  ⟨h.bd.later hb, h.map.later hb, h.eq, h.lt, next14 h.bel hb⟩
/-- Behind a Note that was taken, and what was noted last. -/
theorem StA16.noted {w W W1 W2 : World} {B A c S q nd rl : Nat} {L : List UInt8} {f : Nat → Nat} (h : StA16 w W B A c S q L f) (hrl : rl < 256) (ht : takes16 L nd rl = true) (hb : Bd16 W1 B A c (note16 L nd rl)) (h1 : Turns (fun k => k = A) W W1)
    (hm : Last16 W2 S (q + 1) (fun i => if i = nd then rl else f i)) (h2 : Turns (fun k => k = S) W1 W2) : StA16 w W2 B A c S (q + 1) (note16 L nd rl) (fun i => if i = nd then rl else f i) := by
  obtain ⟨n1, n2⟩ := h.map.ne_board h.bd
  refine ⟨hb.turns h2 (fun e => n2 e.symm) (fun e => n1 e.symm), hm, fun i hi => ?_, h.lt, ?_⟩
  · rw [note16_length] at hi
    rw [of16_note L hrl]
    show (if takes16 L nd rl = true ∧ i = nd then rl else of16 L i) = if i = nd then rl else f i
    by_cases e : i = nd
    · rw [if_pos ⟨ht, e⟩, if_pos e]
    · rw [if_neg (fun k => e k.2), if_neg e]
      exact h.eq i hi
  · have h12 := (h1.mono (S' := fun k => k = A ∨ k = S) (fun _ _ e => .inl e)).next h2 (fun _ _ e => .inr e)
    exact ((Turns.of_below h.bel (fun k => w.heap.size ≤ k)).next h12 (fun i _ e => by
      rcases e with e | e
      · rw [e]; exact h.lt.1
      · rw [e]; exact h.lt.2.2)).below (fun i h => h)
/-- A node is asked: what each operation makes. -/
def YOf16 (B S i x : Nat) : Nat → Value → Prop
  | 0, v => v = .pointer (some ⟨B, 0, none⟩)
  | 1, v => v = .int .i64 i
  | 2, v => v = .int .u8 i
  | 3, v => v = .int .u8 x
  | 4, v => v = .map (some S)
  | 5, v => v = .int .i64 i
  | 6, v => v = .int .u8 i
  | 7, v => v = .int .u8 x
  | 8, v => v = .bool false
  | _, _ => True

set_option maxRecDepth 100000 in
set_option maxHeartbeats 16000000 in
theorem aall16_walk (x0 : Nat) (A0 : Option Addr) (c n : Nat) (l : List AcB) (a b : Nat) (w : World) (h0 : x0 < 256) (ha : a < 256) (hb : b < 256) (hl : n = l.length) (hn : n ≤ 9223372036854775807) (hr : RdAB w A0 l) (ho : ∀ t ∈ l, t.Ok) :
    Calls Try.prog 4 #[.int .u8 (x0 : Int), .slice A0 n c, .int .u8 (a : Int), .int .u8 (b : Int)] w (Says14 (.bool true) w) := by
  have HV : Hid (∀ W, Calls Try.prog 5 #[] W (Says14 (.bool true) W)) := fun W => lives16_calls W
  have hmm := @run_makeMap Try.prog
  have HR := Lib.hid hr
  have HL := Lib.hid hl
  have HO := Lib.hid ho
  clear hr hl ho
  by_cases hq : n ≤ 40
  case neg =>
    have q1 : decide ((n : Int) > 40) = true := by simp; omega
    have q2 : decide (40 < n) = true := by simp; omega
    clear hq
    go_enter Try.func4, Try.ntmps4
    go_wp2_with fail
    with_reducible refine (HV.out w).mono ?_
    rintro e w1 ⟨rfl, hb1⟩
    have HB1 := Lib.hid hb1
    clear hb1
    go_wp2_with fail
    with_reducible refine (HV.out w1).mono ?_
    rintro e w2 ⟨rfl, hb2⟩
    have HB2 := Lib.hid (next14 HB1.out hb2)
    clear hb2
    go_wp2
    go_ret
    exact ⟨rfl, HB2.out⟩
  have q1 : decide ((n : Int) > 40) = false := by simp; omega
  have q2 : decide (40 < n) = false := by simp; omega
  obtain ⟨N, hN⟩ : ∃ N, N = 3 + 2 * (x0 % 3) := ⟨_, rfl⟩
  have hN7 : N ≤ 7 := by omega
  have hmay : may16 N = true := by
    rcases (by omega : x0 % 3 = 0 ∨ x0 % 3 = 1 ∨ x0 % 3 = 2) with e | e | e <;> (rw [hN, e]; decide)
  have HNE : Hid (∀ W, Calls Try.prog 6 #[.int .i64 (3 + 2 * ((x0 : Int) % 3))] W (Newly16 N W)) := fun W => by
    have e : (3 + 2 * ((x0 : Int) % 3)) = (N : Int) := by omega
    rw [e]
    exact New16_calls N W hmay
  unfold Newly16 at HNE
  clear hN hmay
  go_enter Try.func4, Try.ntmps4
  go_wp2_with fail
  with_reducible refine (HV.out w).mono ?_
  rintro e w1 ⟨rfl, hb1⟩
  have HB1 := Lib.hid hb1
  clear hb1
  go_wp2_with fail
  with_reducible refine (HNE.out _).mono ?_
  rintro e w2 ⟨B, A, rfl, hA, hB, hb2, hbd⟩
  have HS0 : Hid (StA16 w (w2.alloc (.map #[] 0)) B A N w2.heap.size 0 (List.replicate N 0) (fun _ => 0)) :=
    ⟨hbd.later ((Below.refl _ _).alloc (Nat.le_refl _) _), Last16.new w2, fun i hi => by
      unfold of16
      rw [List.getD_eq_getElem?_getD, List.getElem?_replicate]
      rw [List.length_replicate] at hi
      rw [if_pos hi]
      rfl, ⟨Nat.le_trans HB1.out.size hA, Nat.le_trans HB1.out.size hB, Nat.le_trans HB1.out.size hb2.size⟩, alloc14 (next14 HB1.out hb2) _⟩
  clear hA hB hb2 hbd HNE HV
  go_wp2
  generalize w2.alloc (.map #[] 0) = w3 at *
  generalize w2.heap.size = S at *
  clear HB1 hmm h0
  go_loopg [34] n (fun gg s34 wr => ∃ k : Nat, k ≤ n ∧ n - k ≤ gg ∧ s34 = .int .i64 k ∧ Hid (∃ L f q, L.length = N ∧ q ≤ k ∧ StA16 w wr B A N S q L f))
  case atStart => exact ⟨0, Nat.zero_le _, by omega, rfl, _, _, 0, by simp, Nat.le_refl _, HS0.out⟩
  case round =>
    clear HS0
    obtain ⟨k, hk, hg, rfl, HK⟩ := hrel
    generalize wr = wo at *
    by_cases hlt : k < n
    case pos =>
      have hltz : (k : Int) < (n : Int) := by omega
      obtain ⟨L, f, q, hLN, hqk, hst⟩ := HK.out
      have HST := Lib.hid hst
      have hkl : k < l.length := HL.out ▸ hlt
      obtain ⟨b', off, rfl, c0, c1, c2⟩ := (HR.out.later hst.bel).at16 k hkl
      have hok := HO.out _ (List.getElem_mem hkl)
      generalize l[k] = t at *
      have HACT : Hid (ActB16 (wo.alloc (.cells #[.int .u8 (t.kd : Int), .int .u8 (t.nd : Int), .int .u8 (t.rl : Int)] 31)) wo.heap.size t) := heap_alloc_new wo _
      obtain ⟨a0, a1, a2⟩ := HACT.out.cells
      have HST1 := Lib.hid (hst.later (alloc14 (Below.refl _ wo) (.cells #[.int .u8 (t.kd : Int), .int .u8 (t.nd : Int), .int .u8 (t.rl : Int)] 31)))
      have hdA : A < wo.heap.size := hst.bd.ltA
      have hnd := hok.nd
      have hrl := hok.rl
      have HNO := Lib.hid (Note16_calls HST1.out.bd t.nd t.rl hnd)
      unfold Noted16 at HNO
      clear hst hok HK HST
      go_wp2_with fail
      clear a0 a1 a2 c0 c1 c2
      generalize wo.alloc (.cells #[.int .u8 (t.kd : Int), .int .u8 (t.nd : Int), .int .u8 (t.rl : Int)] 31) = wa at *
      generalize hD : wo.heap.size = D at *
      with_reducible refine HNO.out.mono ?_
      rintro e w5 ⟨rfl, hbd5, ht5⟩
      have hA5 := HACT.out.turns ht5 (by omega)
      obtain ⟨a0, a1, a2⟩ := hA5.cells
      cases ht : takes16 L t.nd t.rl with
      | false =>
        have e1 : err16 L t.nd t.rl = 1 := by unfold err16; rw [ht]; rfl
        have e2 : note16 L t.nd t.rl = L := by unfold note16; rw [ht]; rfl
        rw [e2] at hbd5
        rw [e1]
        have HS5 : Hid (StA16 w w5 B A N S q L f) := ⟨hbd5, HST1.out.map.turns ht5 (fun e => (HST1.out.map.ne_board HST1.out.bd).1 e), HST1.out.eq, HST1.out.lt, ((Turns.of_below HST1.out.bel (fun k => w.heap.size ≤ k)).next ht5 (fun i _ e => by rw [e]; exact HST1.out.lt.1)).below (fun i h => h)⟩
        clear hbd5 ht5 hA5 ht e1 e2 HST1 HNO HACT
        go_wp2
        go_roundg (n - (k + 1))
        case measure => omega
        case rel => exact ⟨k + 1, by omega, by omega, by go_num, L, f, q, hLN, by omega, HS5.out⟩
      | true =>
        have e1 : err16 L t.nd t.rl = 0 := by unfold err16; rw [ht]; rfl
        rw [e1]
        have hm5 := HST1.out.map.turns ht5 (fun e => (HST1.out.map.ne_board HST1.out.bd).1 e)
        obtain ⟨w6, hrun, hm6, ht6⟩ := hm5.store hnd hrl (by omega)
        have HS6 := Lib.hid (HST1.out.noted hrl ht hbd5 ht5 hm6 ht6)
        have HLN : Hid ((note16 L t.nd t.rl).length = N) := by rw [note16_length]; exact hLN
        clear hbd5 ht5 hA5 ht e1 HST1 HNO HACT hm5 hm6 ht6
        go_wp2
        go_roundg (n - (k + 1))
        case measure => omega
        case rel => exact ⟨k + 1, by omega, by omega, by go_num, _, _, q + 1, HLN.out, by omega, HS6.out⟩
    have hltz : ¬ (k : Int) < (n : Int) := by omega
    obtain rfl : k = n := by omega
    obtain ⟨L, f, q, hLN, hqk, hst⟩ := HK.out
    have HST := Lib.hid hst
    have HNO := Lib.hid (Nodes16_calls hst.bd)
    rw [hLN] at HNO
    have HLN := Lib.hid hLN
    clear hst HK hLN hqk
    go_wp2_with fail
    with_reducible refine HNO.out.mono ?_
    rintro e w5 ⟨rfl, rfl⟩
    clear HNO
    go_wp2
    go_loopg [13, 53] N (fun gg s13 s53 wr => ∃ (i : Nat) (y : Bool), i ≤ N ∧ N - i ≤ gg ∧ s53 = .int .i64 i ∧ s13 = .bool y ∧ Hid (y = allK16 L a i ∧ StA16 w wr B A N S q L f))
    case atStart => exact ⟨0, true, Nat.zero_le _, by omega, rfl, rfl, rfl, HST.out⟩
    case round =>
      clear HST
      obtain ⟨i, y, hi, hgi, rfl, rfl, H5⟩ := hrel
      generalize wr = wo at *
      by_cases hiN : i < N
      case pos =>
        have hi8z : (i : Int) < N := by omega
        have hi256 : i < 256 := by omega
        have hcv : IntKind.u8.wrap (i : Int) = i := by rw [IntKind.wrap_u8']; omega
        obtain ⟨x, hx⟩ : ∃ x, x = of16 L i := ⟨_, rfl⟩
        have hx3 : x ≤ 3 := by rw [hx]; exact H5.out.2.bd.good.of i
        have hfx : f i = x := by rw [hx]; exact (H5.out.2.eq i (by rw [HLN.out]; exact hiN)).symm
        have HOF : Hid (∀ W, Below wo.heap.size wo W → Calls Try.prog 22 #[.pointer (some ⟨B, 0, none⟩), .int .u8 (i : Int)] W fun e w' => e = .returned (.int .u8 (x : Nat)) ∧ W = w') := fun W hW => by
          rw [hx]
          exact Of16_calls (H5.out.2.bd.later hW) i hi256
        have HMP := Lib.hid H5.out.2.map
        have HSU : Hid (allK16 L a (i + 1) = (y && has16 x a)) := hidz (by rw [allK16_succ, ← H5.out.1, ← hx])
        have HHA := Lib.hid (fun W => Has16_calls x a W (by omega) ha)
        clear hx hx3
        go_wp2
        refine wp_region_inv (by kernel_rfl) (fun W => Below wo.heap.size wo W) (fun j v _ => YOf16 B S i x j v) ?F17 ?hF17 (by kernel_rfl) (by kernel_rfl) (drew14 (Below.refl _ _)) ?step17 ?fin17
        case hF17 =>
          intro x
          simp only [List.map_cons, List.map_nil, putL, Act.put, List.setIfInBounds_toArray, List.set_cons_zero, List.set_cons_succ, Nat.zero_add, Nat.reduceAdd]
          exact rfl
        case step17 =>
          refine ⟨?_, ?_, ?_, ?_, ?_, ?_, ?_, ?_, ?_, trivial⟩
          all_goals intro z W hW hdep K hK
          · clear hdep
            go_simp
            exact hK _ _ rfl hW (fun _ _ h => h)
          · clear hdep
            go_simp
            exact hK _ _ rfl hW (fun _ _ h => h)
          · have h1 : z 1 = _ := hdep 1 rfl
            clear hdep
            simp only [h1] at hK
            go_simp
            exact hK _ _ rfl hW (fun _ _ h => h)
          · have h0 : z 0 = _ := hdep 0 rfl
            have h2 : z 2 = _ := hdep 2 rfl
            clear hdep
            simp only [h0, h2] at hK
            go_simp
            refine (HOF.out W hW).mono ?_
            rintro e W' ⟨rfl, rfl⟩
            exact hK _ _ rfl hW (fun _ _ h => h)
          · clear hdep
            go_simp
            exact hK _ _ rfl hW (fun _ _ h => h)
          · clear hdep
            go_simp
            exact hK _ _ rfl hW (fun _ _ h => h)
          · have h5 : z 5 = _ := hdep 5 rfl
            clear hdep
            simp only [h5] at hK
            go_simp
            exact hK _ _ rfl hW (fun _ _ h => h)
          · have h4 : z 4 = _ := hdep 4 rfl
            have h6 : z 6 = _ := hdep 6 rfl
            have hlk := (HMP.out.later hW).look hi256
            clear hdep
            simp only [h4, h6] at hK
            go_simp
            exact hK _ _ rfl hW (fun _ _ h => h)
          · have h3 : z 3 = _ := hdep 3 rfl
            have h7 : z 7 = _ := hdep 7 rfl
            clear hdep
            simp only [h3, h7] at hK
            go_simp
            exact hK _ _ rfl hW (fun _ _ h => h)
        case fin17 =>
          intro z W hW hY
          have h8 : z 8 = .bool false := hY 8 (by decide)
          have HS6 := Lib.hid (H5.out.2.later hW)
          have hlk := (HMP.out.later hW).look hi256
          rw [hfx] at hlk
          clear hY hW H5 HOF HMP hfx
          rw [h8]
          cases y with
          | false =>
            have HSY : Hid (false = allK16 L a (i + 1)) := hidz (by rw [HSU.out]; rfl)
            clear HSU HHA hlk
            go_wp2
            go_roundg (N - (i + 1))
            case measure => omega
            case rel => exact ⟨i + 1, false, by omega, by omega, by go_num, rfl, HSY.out, HS6.out⟩
          | true =>
            have HSY : Hid (has16 x a = allK16 L a (i + 1)) := hidz (by rw [HSU.out, Bool.true_and])
            clear HSU
            go_wp2_with fail
            with_reducible refine (HHA.out _).mono ?_
            rintro e w7 ⟨rfl, rfl⟩
            clear HHA hlk
            generalize has16 x a = y2 at *
            go_wp2
            go_roundg (N - (i + 1))
            case measure => omega
            case rel => exact ⟨i + 1, y2, by omega, by omega, by go_num, rfl, HSY.out, HS6.out⟩
      have hi8z : ¬ (i : Int) < N := by omega
      obtain rfl : i = N := by omega
      obtain ⟨hy, hst⟩ := H5.out
      have HST := Lib.hid hst
      have hab : a ||| b < 256 := Nat.or_lt_two_pow (n := 8) ha hb
      have hor := u8_or_nat a b ha hb
      have HA1 : Hid (∀ W, Below wo.heap.size wo W → Calls Try.prog 18 #[.pointer (some ⟨B, 0, none⟩), .int .u8 (a : Int)] W (Says14 (.bool y) W)) := fun W hW => by
        have := All16_calls (HST.out.bd.later hW) a ha
        rw [HLN.out, ← hy] at this
        exact this
      obtain ⟨y2, hy2⟩ : ∃ y2, y2 = allK16 L b i := ⟨_, rfl⟩
      have HA2 : Hid (∀ W, Below wo.heap.size wo W → Calls Try.prog 18 #[.pointer (some ⟨B, 0, none⟩), .int .u8 (b : Int)] W (Says14 (.bool y2) W)) := fun W hW => by
        have := All16_calls (HST.out.bd.later hW) b hb
        rw [HLN.out, ← hy2] at this
        exact this
      have HA3 : Hid (∀ W, Below wo.heap.size wo W → Calls Try.prog 18 #[.pointer (some ⟨B, 0, none⟩), .int .u8 ((a ||| b : Nat) : Int)] W (Says14 (.bool (y && y2)) W)) := fun W hW => by
        have := All16_calls (HST.out.bd.later hW) (a ||| b) hab
        rw [HLN.out, allK16_both, ← hy, ← hy2] at this
        exact this
      unfold Says14 at HA1 HA2 HA3
      generalize a ||| b = ab at *
      clear hy hst hy2 hab ha hb H5
      have hyy : (y != y) = false := by cases y <;> rfl
      go_wp2_with fail
      with_reducible refine (HA1.out _ (Below.refl _ _)).mono ?_
      rintro e w6 ⟨rfl, hb6⟩
      have HB6 := Lib.hid hb6
      clear hb6
      go_wp2_with fail
      with_reducible refine (HA3.out _ HB6.out).mono ?_
      rintro e w7 ⟨rfl, hb7⟩
      have HB7 := Lib.hid (next14 HB6.out hb7)
      clear hb7 HB6 HA3
      go_wp2_with fail
      with_reducible refine (HA1.out _ HB7.out).mono ?_
      rintro e w8 ⟨rfl, hb8⟩
      have HB8 := Lib.hid (next14 HB7.out hb8)
      clear hb8 HB7 HA1 hyy
      cases y with
      | false =>
        have HB9 := Lib.hid (next14 HST.out.bel HB8.out)
        clear HA2 HB8
        cases y2
        all_goals
          go_wp2
          go_ret
          exact ⟨rfl, HB9.out⟩
      | true =>
        go_wp2_with fail
        with_reducible refine (HA2.out _ HB8.out).mono ?_
        rintro e w9 ⟨rfl, hb9⟩
        have HB9 := Lib.hid (next14 HST.out.bel (next14 HB8.out hb9))
        clear hb9 HA2 HB8
        cases y2
        all_goals
          go_wp2
          go_ret
          exact ⟨rfl, HB9.out⟩
end Go.Proofs.Ytkcddihigagknaa
