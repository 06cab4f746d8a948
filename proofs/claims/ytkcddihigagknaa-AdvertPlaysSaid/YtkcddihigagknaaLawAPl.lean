/-
  AdvertPlays walked: behind any acts each answer, each release, and who lacks what, are the document's.
  Conditions: none.
-/
import Derived.Test.YtkcddihigagknaaAdvK
import Derived.Test.YtkcddihigagknaaAdvR
import Derived.Test.YtkcddihigagknaaAdvC
import Derived.Test.YtkcddihigagknaaAdvE
import Derived.Test.YtkcddihigagknaaAdvS
namespace Go.Proofs.Ytkcddihigagknaa
open Go.RowKit

/-- The code's board beside the document's. -/
structure StP16 (w W : World) (D B A c : Nat) (L : List UInt8) : Prop where
  bd : Bd16 W B A c L
  doc : Doc16 W D L
  lt : w.heap.size ≤ A ∧ w.heap.size ≤ B ∧ w.heap.size ≤ D
  bel : Below w.heap.size w W
theorem Doc16.ne_board {W : World} {D B A c : Nat} {L L' : List UInt8} (h : Doc16 W D L) (hb : Bd16 W B A c L') : D ≠ A ∧ D ≠ B := by
  unfold Doc16 at h
  constructor
  · rintro rfl
    obtain ⟨cur, h2, _⟩ := hb.row
    rw [h] at h2
    simp at h2
  · rintro rfl
    have h2 := hb.blk
    rw [h] at h2
    simp at h2
theorem StP16.later {w W W' : World} {D B A c : Nat} {L : List UInt8} (h : StP16 w W D B A c L) (hb : Below W.heap.size W W') : StP16 w W' D B A c L :=
  ⟨h.bd.later hb, h.doc.later hb, h.lt, next14 h.bel hb⟩
theorem below_turns16 {w W W' : World} {S : Nat → Prop} (h : Below w.heap.size w W) (ht : Turns S W W') (hs : ∀ i, S i → w.heap.size ≤ i) : Below w.heap.size w W' :=
  ((Turns.of_below h (fun k => w.heap.size ≤ k)).next ht (fun i _ e => hs i e)).below (fun i h => h)
/-- A document's board of n nodes, nothing noted. -/
theorem docA_new (n : Nat) : (docA []).toList.set 0 (.int .i64 (n : Int)) = (docA (List.replicate n 0)).toList := by
  have h : ∀ i, of16 (List.replicate n 0) i = 0 := fun i => by
    unfold of16
    rw [List.getD_eq_getElem?_getD, List.getElem?_replicate]
    split <;> rfl
  unfold docA
  simp only [h, List.length_replicate]
  rfl
theorem conv16 (w : World) (s : ByteArray) : ∃ A c w1, (convert 9 40 (.string s)).run Try.prog w = .ok (.slice A s.size c) w1 ∧ Rd w1 (.slice A s.size c) s.data.toList ∧ Below w.heap.size w w1 :=
  ⟨_, _, _, run_bytes_of_string (P := Try.prog) w 9 40 5 s Try.underlying9 Try.underlying40 Try.underlying5, rd_bytes w.drew s _ _ _, still14 ((Turns.refl _ w).drew.alloc _)⟩
/-- Behind an act: what each operation makes. -/
def YTl16 (B r m : Nat) (L l : List UInt8) : Nat → Value → World → Prop
  | 0, v, _ => v = .pointer (some ⟨B, 0, none⟩)
  | 1, v, _ => v = .int .u8 r
  | 2, v, W => (∃ A c, v = .slice A m c) ∧ Rd W v l
  | 3, v, _ => v = .agg (docA L)
  | 4, v, _ => v = .int .u8 r
  | 5, v, W => (∃ A c, v = .slice A m c) ∧ Rd W v l
  | 6, v, W => (∃ A c, v = .slice A m c) ∧ Rd W v l
  | 7, v, W => (∃ A c, v = .slice A m c) ∧ Rd W v l
  | _, _, _ => True
theorem YTl16_keep {B r m : Nat} {L l : List UInt8} {W W' : World} (hb : Below W.heap.size W W') (j : Nat) (z : Value) (h : YTl16 B r m L l j z W) : YTl16 B r m L l j z W' := by
  match j, h with
  | 0, h => exact h
  | 1, h => exact h
  | 2, h => exact ⟨h.1, h.2.still (turns14 hb)⟩
  | 3, h => exact h
  | 4, h => exact h
  | 5, h => exact ⟨h.1, h.2.still (turns14 hb)⟩
  | 6, h => exact ⟨h.1, h.2.still (turns14 hb)⟩
  | 7, h => exact ⟨h.1, h.2.still (turns14 hb)⟩
  | _ + 8, _ => trivial

set_option maxRecDepth 100000 in
set_option maxHeartbeats 32000000 in
theorem aplays16_walk (x0 : Int) (A0 : Option Addr) (c n : Nat) (l : List AcB) (r : Nat) (w : World) (hr : r < 256) (hl : n = l.length) (hn : n ≤ 9223372036854775807) (hrd : RdAB w A0 l) (ho : ∀ t ∈ l, t.Ok) :
    Calls Try.prog 3 #[.int .i64 x0, .slice A0 n c, .int .u8 (r : Int)] w (Says14 (.bool true) w) := by
  have HV : Hid (∀ W, Calls Try.prog 5 #[] W (Says14 (.bool true) W)) := fun W => lives16_calls W
  have HRD := Lib.hid hrd
  have HL := Lib.hid hl
  have HO := Lib.hid ho
  clear hrd hl ho
  by_cases hq : n ≤ 40
  case neg =>
    have q1 : decide ((n : Int) > 40) = true := by simp; omega
    have q2 : decide (40 < n) = true := by simp; omega
    clear hq
    go_enter Try.func3, Try.ntmps3
    go_wp2_with fail
    with_reducible refine (HV.out w).mono ?_
    rintro e w1 ⟨rfl, hb1⟩
    have HB1 := Lib.hid hb1
    clear hb1
    go_wp2_with fail
    with_reducible refine (HV.out w1).mono ?_
    rintro e w2 ⟨rfl, hb2⟩
    have HB2 := Lib.hid (next14 HB1.out hb2)
    clear hb2
    go_wp2
    go_ret
    exact ⟨rfl, HB2.out⟩
  have q1 : decide ((n : Int) > 40) = false := by simp; omega
  have q2 : decide (40 < n) = false := by simp; omega
  have HRI := Lib.hid (fun W => rRight16_calls x0 W)
  cases hmay : may16 x0 with
  | false =>
    have HNE := Lib.hid (fun W => New16_none x0 W hmay)
    rw [hmay] at HRI
    clear hmay
    go_enter Try.func3, Try.ntmps3
    go_wp2_with fail
    with_reducible refine (HV.out w).mono ?_
    rintro e w1 ⟨rfl, hb1⟩
    have HB1 := Lib.hid hb1
    clear hb1
    go_wp2_with fail
    with_reducible refine (HNE.out w1).mono ?_
    rintro e w2 ⟨rfl, rfl⟩
    go_wp2_with fail
    with_reducible refine (HRI.out w1).mono ?_
    rintro e w2 ⟨rfl, rfl⟩
    go_wp2
    go_ret
    exact ⟨rfl, HB1.out⟩
  | true =>
  obtain ⟨N, rfl⟩ : ∃ N : Nat, x0 = N := ⟨x0.toNat, by rcases may16_cases hmay with e | e | e <;> omega⟩
  have hN7 : N ≤ 7 := by rcases may16_cases hmay with e | e | e <;> omega
  have HNE := Lib.hid (fun W => New16_calls N W hmay)
  unfold Newly16 at HNE
  rw [hmay] at HRI
  clear hmay
  go_enter Try.func3, Try.ntmps3
  go_wp2_with fail
  with_reducible refine (HV.out w).mono ?_
  rintro e w1 ⟨rfl, hb1⟩
  have HB1 := Lib.hid hb1
  clear hb1
  go_wp2_with fail
  with_reducible refine (HNE.out _).mono ?_
  rintro e w2 ⟨B0, A1, rfl, hA, hB, hb2, hbd⟩
  go_wp2_with fail
  with_reducible refine (HRI.out _).mono ?_
  rintro e w2' ⟨rfl, rfl⟩
  have hd3 : Doc16 (w2.alloc (.cells (docA []) 29)) w2.heap.size [] := heap_alloc_new w2 _
  have hst := hd3.store_run Try.prog (List.replicate N 0)
  rw [← docA_new] at hst
  have ht3 := turns_setRow16 (w2.alloc (.cells (docA []) 29)) w2.heap.size (docA (List.replicate N 0))
  have hbd3 := hbd.later (alloc14 (Below.refl _ w2) (.cells (docA []) 29))
  have HS0 : Hid (StP16 w ((w2.alloc (.cells (docA []) 29)).setRow w2.heap.size (docA (List.replicate N 0))) w2.heap.size B0 A1 N (List.replicate N 0)) :=
    ⟨hbd3.turns ht3 (fun e => by have h1 := hbd.lt; have := e; omega) (fun e => by have h1 := hbd.ltA; have := e; omega), hd3.stored _, ⟨Nat.le_trans HB1.out.size hA, Nat.le_trans HB1.out.size hB, Nat.le_trans HB1.out.size hb2.size⟩,
      below_turns16 (alloc14 (next14 HB1.out hb2) _) ht3 (fun i e => by have h1 := HB1.out.size; have h2 := hb2.size; have := e; omega)⟩
  have hz := zeroDoc16_run
  have HLN0 : Hid ((List.replicate N (0 : UInt8)).length = N) := hidz (by simp)
  clear hA hB hb2 hbd HNE HV HRI hd3 ht3 hbd3
  go_wp2
  clear hst
  generalize (w2.alloc (.cells (docA []) 29)).setRow w2.heap.size (docA (List.replicate N 0)) = w4 at *
  generalize w2.heap.size = D at *
  generalize List.replicate N (0 : UInt8) = L0 at *
  clear HB1
  go_loopg [7, 35] n (fun gg s7 s35 wr => ∃ k B : Nat, k ≤ n ∧ n - k ≤ gg ∧ s35 = .int .i64 k ∧ s7 = .pointer (some ⟨B, 0, none⟩) ∧ Hid (∃ A c L, L.length = N ∧ StP16 w wr D B A c L))
  case atStart => exact ⟨0, B0, Nat.zero_le _, by omega, rfl, rfl, A1, N, L0, HLN0.out, HS0.out⟩
  case round =>
    clear HS0 HLN0
    obtain ⟨k, B, hk, hg, rfl, rfl, HK⟩ := hrel
    generalize wr = wo at *
    obtain ⟨A, cA, L, hLN, hST⟩ := HK.out
    have HST := Lib.hid hST
    have HLN := Lib.hid hLN
    have hwB : w.heap.size ≤ B ∧ w.heap.size ≤ A ∧ w.heap.size ≤ D := ⟨hST.lt.2.1, hST.lt.1, hST.lt.2.2⟩
    clear hST HK hLN
    by_cases hlt : k < n
    case neg =>
      have hltz : ¬ (k : Int) < (n : Int) := by omega
      obtain rfl : k = n := by omega
      have HA1 : Hid (∀ W, Calls Try.prog 19 #[.int .u8 (r : Int), .int .u8 2] W fun e w' => e = .returned (.bool (has16 r 2)) ∧ W = w') := fun W => Has16_calls r 2 W hr (by decide)
      have HA2 : Hid (∀ W, Calls Try.prog 20 #[.int .u8 (r : Int), .int .u8 2] W fun e w' => e = .returned (.bool (has16 r 2)) ∧ W = w') := fun W => rHas16_calls r 2 W hr (by decide)
      have hyy : (has16 r 2 == has16 r 2) = true := by simp
      generalize has16 r 2 = y at *
      have HB := Lib.hid HST.out.bel
      clear HST HLN
      go_wp2_with fail
      with_reducible refine (HA1.out _).mono ?_
      rintro e w5 ⟨rfl, rfl⟩
      go_wp2_with fail
      with_reducible refine (HA2.out _).mono ?_
      rintro e w5 ⟨rfl, rfl⟩
      go_wp2
      go_ret
      exact ⟨rfl, HB.out⟩
    have hltz : (k : Int) < (n : Int) := by omega
    have hkl : k < l.length := HL.out ▸ hlt
    obtain ⟨b, off, rfl, c0, c1, c2⟩ := (HRD.out.later HST.out.bel).at16 k hkl
    have HOK := Lib.hid (HO.out _ (List.getElem_mem hkl))
    generalize l[k] = t at *
    have hA : ActB16 (wo.alloc (.cells #[.int .u8 (t.kd : Int), .int .u8 (t.nd : Int), .int .u8 (t.rl : Int)] 31)) wo.heap.size t := heap_alloc_new wo _
    have hbA := alloc14 (Below.refl _ wo) (.cells #[.int .u8 (t.kd : Int), .int .u8 (t.nd : Int), .int .u8 (t.rl : Int)] 31)
    have HS5 := Lib.hid (HST.out.later hbA)
    have HA5 := Lib.hid hA
    obtain ⟨a0, a1, a2⟩ := hA.cells
    have hXl : wo.heap.size < (wo.alloc (.cells #[.int .u8 (t.kd : Int), .int .u8 (t.nd : Int), .int .u8 (t.rl : Int)] 31)).heap.size := by simp
    have hdl : D < wo.heap.size ∧ A < wo.heap.size ∧ B < wo.heap.size := ⟨HST.out.doc.lt, HST.out.bd.ltA, HST.out.bd.lt⟩
    clear hbA hA
    have h3c : t.kd % 3 = 0 ∨ t.kd % 3 = 1 ∨ t.kd % 3 = 2 := by omega
    rcases h3c with h3c | h3c | h3c
    · have hq3 : (t.kd : Int) % 3 = 0 := by omega
      have hnd := HOK.out.nd
      have hrl := HOK.out.rl
      obtain ⟨err, herr⟩ : ∃ err, err = err16 L t.nd t.rl := ⟨_, rfl⟩
      obtain ⟨L9, hL9⟩ : ∃ L9, L9 = note16 L t.nd t.rl := ⟨_, rfl⟩
      have HLN9 : Hid (L9.length = N) := by rw [hL9, note16_length]; exact HLN.out
      have HRN : Hid (∀ W, Calls Try.prog 8 #[.agg (docA L), .int .u8 (t.nd : Int), .int .u8 (t.rl : Int)] W fun e w' => e = .returned (.tuple #[.agg (docA L9), .int .i64 (err : Nat)]) ∧ Below W.heap.size W w') := fun W => by
        rw [hL9, herr]
        exact rNote16_calls L HST.out.bd.good t.nd t.rl hnd hrl W
      have HNT : Hid (∀ W, Bd16 W B A cA L → Calls Try.prog 9 #[.pointer (some ⟨B, 0, none⟩), .int .u8 (t.nd : Int), .int .u8 (t.rl : Int)] W fun e w' => e = .returned (.int .i64 (err : Nat)) ∧ Bd16 w' B A cA L9 ∧ Turns (fun k => k = A) W w') := fun W hW => by
        rw [hL9, herr]
        exact Note16_calls hW t.nd t.rl hnd
      clear herr hL9
      have HX5 : Hid ((wo.alloc (.cells #[.int .u8 (t.kd : Int), .int .u8 (t.nd : Int), .int .u8 (t.rl : Int)] 31)).heap[D]? = some (.cells (docA L) 29 (0, 0))) := HS5.out.doc
      go_wp2_with (with_reducible refine wpList_load_row rfl 29 (.tmp 8) rfl D rfl 29 (docA L) (0, 0) _ HX5.out Try.underlying29 rfl (sizeDoc16A L) ?_)
      clear c0 c1 c2 a0 a1 a2
      generalize wo.alloc (.cells #[.int .u8 (t.kd : Int), .int .u8 (t.nd : Int), .int .u8 (t.rl : Int)] 31) = w5 at *
      generalize hXX : wo.heap.size = X at *
      with_reducible refine (HRN.out _).mono ?_
      rintro e' w6 ⟨rfl, hb6⟩
      have hD6 : Doc16 w6 D L := HS5.out.doc.later hb6
      have hV6 : Doc16 (w6.alloc (.cells (docA []) 29)) w6.heap.size [] := heap_alloc_new w6 _
      have hst := hV6.store_run Try.prog L9
      have hVb := hV6.stored L9
      have htb : Turns (fun i => i = w6.heap.size) w6 ((w6.alloc (.cells (docA []) 29)).setRow w6.heap.size (docA L9)) := ((Turns.refl _ w6).alloc _).next (turns_setRow16 _ _ _) (fun _ _ e => e)
      have hbb : Below w6.heap.size w6 ((w6.alloc (.cells (docA []) 29)).setRow w6.heap.size (docA L9)) := htb.below (fun i e => by have := e; omega)
      have h5s : w.heap.size ≤ w5.heap.size := HS5.out.bel.size
      have h5D : D < w5.heap.size ∧ A < w5.heap.size ∧ B < w5.heap.size := ⟨HS5.out.doc.lt, HS5.out.bd.ltA, HS5.out.bd.lt⟩
      generalize hw6b : (w6.alloc (.cells (docA []) 29)).setRow w6.heap.size (docA L9) = w6b at *
      have hD6b := hD6.later hbb
      have hst2 := hD6b.store_run Try.prog L9
      have hD7 := hD6b.stored L9
      have ht7 := turns_setRow16 w6b D (docA L9)
      obtain ⟨hnA, hnB⟩ := HS5.out.doc.ne_board HS5.out.bd
      have hbd7 : Bd16 (w6b.setRow D (docA L9)) B A cA L := (HS5.out.bd.later (next14 hb6 hbb)).turns ht7 (fun e => hnB e.symm) (fun e => hnA e.symm)
      have hA7 : ActB16 (w6b.setRow D (docA L9)) X t := (HA5.out.later (next14 hb6 hbb)).turns ht7 (fun e => by have := e; omega)
      have hW7 : Below w.heap.size w (w6b.setRow D (docA L9)) := below_turns16 (next14 HS5.out.bel (next14 hb6 hbb)) ht7 (fun i e => by have := e; omega)
      have HVb : Hid (w6b.heap[w6.heap.size]? = some (.cells (docA L9) 29 (0, 0))) := hVb
      have HD7 := Lib.hid hD7
      have HO7 := Lib.hid hbd7
      have HA7 := Lib.hid hA7
      have HW7 := Lib.hid hW7
      have HNO := Lib.hid (HNT.out _ hbd7)
      have r1 : ((err : Int) != err) = false := by simp
      have r2 : (err != err) = false := by simp
      obtain ⟨a0, a1, a2⟩ := hA7.cells
      clear hD6 hV6 hVb htb hbb hD6b hD7 ht7 hbd7 hA7 hW7 hb6 hw6b HRN HX5 HNT
      go_wp2_with (with_reducible refine wpList_load_row rfl 29 (.tmp 11) rfl w6.heap.size rfl 29 (docA L9) (0, 0) _ HVb.out Try.underlying29 rfl (sizeDoc16A L9) ?_)
      clear hst hst2
      generalize w6b.setRow D (docA L9) = w7 at *
      with_reducible refine HNO.out.mono ?_
      rintro e' w9 ⟨rfl, hbd9, ht9⟩
      obtain ⟨A9, hA9⟩ : ∃ A9, A9 = A := ⟨_, rfl⟩
      have HS9 : Hid (StP16 w w9 D B A9 cA L9) := by
        rw [hA9]
        exact ⟨hbd9, HD7.out.turns ht9 (fun e => hnA e), HS5.out.lt, below_turns16 HW7.out ht9 (fun i e => by have := e; omega)⟩
      clear hA9 hbd9 ht9 HNO HO7 HD7 HA7 HW7 HST HS5 HA5 HLN HVb
      go_wp2
      clear r1 r2 a0 a1 a2
      obtain ⟨ll, hll⟩ : ∃ ll, ll = lacks16 L9 r N := ⟨_, rfl⟩
      obtain ⟨m, hm⟩ : ∃ m, m = ll.length := ⟨_, rfl⟩
      obtain ⟨y, hy⟩ : ∃ y, y = allK16 L9 r N := ⟨_, rfl⟩
      have HLA : Hid (∀ W, Below w9.heap.size w9 W → Calls Try.prog 15 #[.pointer (some ⟨B, 0, none⟩), .int .u8 (r : Int)] W fun e w' => ∃ v, e = .returned v ∧ (∃ A c, v = .slice A m c) ∧ Rd w' v ll ∧ Below W.heap.size W w') := fun W hW => by
        have := Lacking16_calls (HS9.out.bd.later hW) r hr
        rw [HLN9.out, ← hll] at this
        exact this.mono fun e w' ⟨v, he, ho, _, ht⟩ => ⟨v, he, by rw [hm]; exact owns_shape ho, Rd.of_own ho, still14 ht⟩
      have HLR : Hid (∀ W, Calls Try.prog 16 #[.agg (docA L9), .int .u8 (r : Int)] W fun e w' => ∃ v, e = .returned v ∧ (∃ A c, v = .slice A m c) ∧ Rd w' v ll ∧ Below W.heap.size W w') := fun W => by
        have := rLacking16_calls L9 HS9.out.bd.good r hr W
        rw [HLN9.out, ← hll] at this
        exact this.mono fun e w' ⟨v, he, ho, _, ht⟩ => ⟨v, he, by rw [hm]; exact owns_shape ho, Rd.of_own ho, still14 ht⟩
      have HAL : Hid (∀ W, Below w9.heap.size w9 W → Calls Try.prog 18 #[.pointer (some ⟨B, 0, none⟩), .int .u8 (r : Int)] W (Says14 (.bool y) W)) := fun W hW => by
        have := All16_calls (HS9.out.bd.later hW) r hr
        rw [HLN9.out, ← hy] at this
        exact this
      have HSA : Hid (∀ W, Below w9.heap.size w9 W → Calls Try.prog 17 #[.pointer (some ⟨B, 0, none⟩), .agg (docA L9)] W (Says14 (.bool true) W)) := fun W hW => Same16_calls (HS9.out.bd.later hW)
      have m1 : ((m : Int) == 0) = y := by rw [hm, hll, hy]; exact lacks16_noneI L9 r N
      have m2 : decide (m = 0) = y := by rw [hm, hll, hy]; exact lacks16_none L9 r N
      have m3 : (m == 0) = y := by rw [← m2]; cases m <;> rfl
      have y1 : (y != y) = false := by cases y <;> rfl
      clear hll hm hy
      go_wp2
      refine wp_region_inv (by kernel_rfl) (fun W => Below w9.heap.size w9 W) (YTl16 B r m L9 ll) ?F22a ?hF22a (by kernel_rfl) (by kernel_rfl) (drew14 (Below.refl _ _)) ?step22a ?fin22a
      case hF22a =>
        intro x
        simp only [List.map_cons, List.map_nil, putL, Act.put, List.setIfInBounds_toArray, List.set_cons_zero, List.set_cons_succ, Nat.zero_add, Nat.reduceAdd]
        exact rfl
      case step22a =>
        refine ⟨?_, ?_, ?_, ?_, ?_, ?_, ?_, ?_, trivial⟩
        all_goals intro z W hW hdep K hK
        · clear hdep
          go_simp
          exact hK _ _ rfl hW (fun _ _ h => h)
        · clear hdep
          go_simp
          exact hK _ _ rfl hW (fun _ _ h => h)
        · have h0 : z 0 = _ := hdep 0 rfl
          have h1 : z 1 = _ := hdep 1 rfl
          clear hdep
          simp only [h0, h1] at hK
          go_simp
          refine (HLA.out W hW).mono ?_
          rintro e' W' ⟨v, rfl, hsh, hrd, hb⟩
          exact hK _ _ ⟨hsh, hrd⟩ (next14 hW hb) (fun j _ h => YTl16_keep hb j _ h)
        · refine step_load16 (by rfl) 29 (.tmp 8) rfl D rfl 29 (docA L9) _ (HS9.out.doc.later hW) Try.underlying29 rfl (sizeDoc16A L9) ?_
          exact hK _ _ rfl hW (fun _ _ h => h)
        · clear hdep
          go_simp
          exact hK _ _ rfl hW (fun _ _ h => h)
        · have h3 : z 3 = _ := hdep 3 rfl
          have h4 : z 4 = _ := hdep 4 rfl
          clear hdep
          simp only [h3, h4] at hK
          go_simp
          refine (HLR.out W).mono ?_
          rintro e' W' ⟨v, rfl, hsh, hrd, hb⟩
          exact hK _ _ ⟨hsh, hrd⟩ (next14 hW hb) (fun j _ h => YTl16_keep hb j _ h)
        · have h2 := hdep 2 rfl
          clear hdep
          go_simp
          exact hK _ _ h2 hW (fun _ _ h => h)
        · have h5 := hdep 5 rfl
          clear hdep
          go_simp
          exact hK _ _ h5 hW (fun _ _ h => h)
      case fin22a =>
        intro z W hW hY
        obtain ⟨⟨A6, c6, h6⟩, hr6⟩ := hY 6 (by decide)
        obtain ⟨⟨A7, c7, h7⟩, hr7⟩ := hY 7 (by decide)
        rw [h6] at hr6
        rw [h7] at hr7
        have HR6 := Lib.hid hr6
        have HR7 := Lib.hid hr7
        have HWW := Lib.hid hW
        have HX9 : Hid (W.heap[D]? = some (.cells (docA L9) 29 (0, 0))) := HS9.out.doc.later hW
        clear hY hW hr6 hr7 HLA HLR
        rw [h6, h7]
        clear h6 h7
        go_wp2_with (with_reducible refine wpList_load_row rfl 29 (.tmp 8) rfl D rfl 29 (docA L9) (0, 0) _ HX9.out Try.underlying29 rfl (sizeDoc16A L9) ?_)
        with_reducible refine (HSA.out _ HWW.out).mono ?_
        rintro e' W2 ⟨rfl, hb⟩
        have HW2 := Lib.hid (next14 HWW.out hb)
        have hcv6 := conv14 (HR6.out.still (turns14 hb))
        have hcv7 := conv14 (HR7.out.still (turns14 hb))
        clear hb HSA HWW HX9 HR6 HR7
        go_wp2_with fail
        with_reducible refine (HAL.out _ HW2.out).mono ?_
        rintro e' W3 ⟨rfl, hb⟩
        have HS3 : Hid (∃ A c L, L.length = N ∧ StP16 w W3 D B A c L) := ⟨_, _, _, HLN9.out, HS9.out.later (next14 HW2.out hb)⟩
        clear hb HAL HW2 hcv6 hcv7 HS9 HLN9
        go_wp2
        go_roundg (n - (k + 1))
        case measure => omega
        case rel => exact ⟨k + 1, B, by omega, by omega, by go_num, rfl, HS3.out⟩
    · have hq3 : (t.kd : Int) % 3 = 1 := by omega
      have HCP := Lib.hid (Copy16_calls HS5.out.bd)
      unfold Copied16 at HCP
      go_wp2_with fail
      clear c0 c1 c2 a0 a1 a2
      generalize wo.alloc (.cells #[.int .u8 (t.kd : Int), .int .u8 (t.nd : Int), .int .u8 (t.rl : Int)] 31) = w5 at *
      generalize hXX : wo.heap.size = X at *
      with_reducible refine HCP.out.mono ?_
      rintro e w6 ⟨B2, A2, c2, rfl, hA2, hB2, hb6, hbd6⟩
      have HS6 := Lib.hid (HS5.out.later hb6)
      have HNO : Hid (Calls Try.prog 9 #[.pointer (some ⟨B2, 0, none⟩), .int .u8 0, .int .u8 2] w6 (Noted16 w6 B2 A2 c2 L 0 2)) := Note16_calls hbd6 0 2 (by decide)
      unfold Noted16 at HNO
      have h5D : D < w5.heap.size ∧ A < w5.heap.size ∧ B < w5.heap.size := ⟨HS5.out.doc.lt, HS5.out.bd.ltA, HS5.out.bd.lt⟩
      clear hb6 hbd6 HCP HST HS5 HA5
      go_wp2_with fail
      with_reducible refine HNO.out.mono ?_
      rintro e w9 ⟨rfl, _, ht9⟩
      obtain ⟨A9, hA9⟩ : ∃ A9, A9 = A := ⟨_, rfl⟩
      have HS9 : Hid (StP16 w w9 D B A9 cA L) := by
        rw [hA9]
        exact ⟨HS6.out.bd.turns ht9 (fun e => by have := e; omega) (fun e => by have := e; omega), HS6.out.doc.turns ht9 (fun e => by have := e; omega), HS6.out.lt, below_turns16 HS6.out.bel ht9 (fun i e => by have := e; omega)⟩
      clear hA9 ht9 HNO HS6
      obtain ⟨L9, hL9⟩ : ∃ L9, L9 = L := ⟨_, rfl⟩
      rw [← hL9] at HS9
      have HLN9 : Hid (L9.length = N) := by rw [hL9]; exact HLN.out
      clear hL9 HLN
      obtain ⟨ll, hll⟩ : ∃ ll, ll = lacks16 L9 r N := ⟨_, rfl⟩
      obtain ⟨m, hm⟩ : ∃ m, m = ll.length := ⟨_, rfl⟩
      obtain ⟨y, hy⟩ : ∃ y, y = allK16 L9 r N := ⟨_, rfl⟩
      have HLA : Hid (∀ W, Below w9.heap.size w9 W → Calls Try.prog 15 #[.pointer (some ⟨B, 0, none⟩), .int .u8 (r : Int)] W fun e w' => ∃ v, e = .returned v ∧ (∃ A c, v = .slice A m c) ∧ Rd w' v ll ∧ Below W.heap.size W w') := fun W hW => by
        have := Lacking16_calls (HS9.out.bd.later hW) r hr
        rw [HLN9.out, ← hll] at this
        exact this.mono fun e w' ⟨v, he, ho, _, ht⟩ => ⟨v, he, by rw [hm]; exact owns_shape ho, Rd.of_own ho, still14 ht⟩
      have HLR : Hid (∀ W, Calls Try.prog 16 #[.agg (docA L9), .int .u8 (r : Int)] W fun e w' => ∃ v, e = .returned v ∧ (∃ A c, v = .slice A m c) ∧ Rd w' v ll ∧ Below W.heap.size W w') := fun W => by
        have := rLacking16_calls L9 HS9.out.bd.good r hr W
        rw [HLN9.out, ← hll] at this
        exact this.mono fun e w' ⟨v, he, ho, _, ht⟩ => ⟨v, he, by rw [hm]; exact owns_shape ho, Rd.of_own ho, still14 ht⟩
      have HAL : Hid (∀ W, Below w9.heap.size w9 W → Calls Try.prog 18 #[.pointer (some ⟨B, 0, none⟩), .int .u8 (r : Int)] W (Says14 (.bool y) W)) := fun W hW => by
        have := All16_calls (HS9.out.bd.later hW) r hr
        rw [HLN9.out, ← hy] at this
        exact this
      have HSA : Hid (∀ W, Below w9.heap.size w9 W → Calls Try.prog 17 #[.pointer (some ⟨B, 0, none⟩), .agg (docA L9)] W (Says14 (.bool true) W)) := fun W hW => Same16_calls (HS9.out.bd.later hW)
      have m1 : ((m : Int) == 0) = y := by rw [hm, hll, hy]; exact lacks16_noneI L9 r N
      have m2 : decide (m = 0) = y := by rw [hm, hll, hy]; exact lacks16_none L9 r N
      have m3 : (m == 0) = y := by rw [← m2]; cases m <;> rfl
      have y1 : (y != y) = false := by cases y <;> rfl
      clear hll hm hy
      go_wp2
      refine wp_region_inv (by kernel_rfl) (fun W => Below w9.heap.size w9 W) (YTl16 B r m L9 ll) ?F22b ?hF22b (by kernel_rfl) (by kernel_rfl) (drew14 (Below.refl _ _)) ?step22b ?fin22b
      case hF22b =>
        intro x
        simp only [List.map_cons, List.map_nil, putL, Act.put, List.setIfInBounds_toArray, List.set_cons_zero, List.set_cons_succ, Nat.zero_add, Nat.reduceAdd]
        exact rfl
      case step22b =>
        refine ⟨?_, ?_, ?_, ?_, ?_, ?_, ?_, ?_, trivial⟩
        all_goals intro z W hW hdep K hK
        · clear hdep
          go_simp
          exact hK _ _ rfl hW (fun _ _ h => h)
        · clear hdep
          go_simp
          exact hK _ _ rfl hW (fun _ _ h => h)
        · have h0 : z 0 = _ := hdep 0 rfl
          have h1 : z 1 = _ := hdep 1 rfl
          clear hdep
          simp only [h0, h1] at hK
          go_simp
          refine (HLA.out W hW).mono ?_
          rintro e' W' ⟨v, rfl, hsh, hrd, hb⟩
          exact hK _ _ ⟨hsh, hrd⟩ (next14 hW hb) (fun j _ h => YTl16_keep hb j _ h)
        · refine step_load16 (by rfl) 29 (.tmp 8) rfl D rfl 29 (docA L9) _ (HS9.out.doc.later hW) Try.underlying29 rfl (sizeDoc16A L9) ?_
          exact hK _ _ rfl hW (fun _ _ h => h)
        · clear hdep
          go_simp
          exact hK _ _ rfl hW (fun _ _ h => h)
        · have h3 : z 3 = _ := hdep 3 rfl
          have h4 : z 4 = _ := hdep 4 rfl
          clear hdep
          simp only [h3, h4] at hK
          go_simp
          refine (HLR.out W).mono ?_
          rintro e' W' ⟨v, rfl, hsh, hrd, hb⟩
          exact hK _ _ ⟨hsh, hrd⟩ (next14 hW hb) (fun j _ h => YTl16_keep hb j _ h)
        · have h2 := hdep 2 rfl
          clear hdep
          go_simp
          exact hK _ _ h2 hW (fun _ _ h => h)
        · have h5 := hdep 5 rfl
          clear hdep
          go_simp
          exact hK _ _ h5 hW (fun _ _ h => h)
      case fin22b =>
        intro z W hW hY
        obtain ⟨⟨A6, c6, h6⟩, hr6⟩ := hY 6 (by decide)
        obtain ⟨⟨A7, c7, h7⟩, hr7⟩ := hY 7 (by decide)
        rw [h6] at hr6
        rw [h7] at hr7
        have HR6 := Lib.hid hr6
        have HR7 := Lib.hid hr7
        have HWW := Lib.hid hW
        have HX9 : Hid (W.heap[D]? = some (.cells (docA L9) 29 (0, 0))) := HS9.out.doc.later hW
        clear hY hW hr6 hr7 HLA HLR
        rw [h6, h7]
        clear h6 h7
        go_wp2_with (with_reducible refine wpList_load_row rfl 29 (.tmp 8) rfl D rfl 29 (docA L9) (0, 0) _ HX9.out Try.underlying29 rfl (sizeDoc16A L9) ?_)
        with_reducible refine (HSA.out _ HWW.out).mono ?_
        rintro e' W2 ⟨rfl, hb⟩
        have HW2 := Lib.hid (next14 HWW.out hb)
        have hcv6 := conv14 (HR6.out.still (turns14 hb))
        have hcv7 := conv14 (HR7.out.still (turns14 hb))
        clear hb HSA HWW HX9 HR6 HR7
        go_wp2_with fail
        with_reducible refine (HAL.out _ HW2.out).mono ?_
        rintro e' W3 ⟨rfl, hb⟩
        have HS3 : Hid (∃ A c L, L.length = N ∧ StP16 w W3 D B A c L) := ⟨_, _, _, HLN9.out, HS9.out.later (next14 HW2.out hb)⟩
        clear hb HAL HW2 hcv6 hcv7 HS9 HLN9
        go_wp2
        go_roundg (n - (k + 1))
        case measure => omega
        case rel => exact ⟨k + 1, B, by omega, by omega, by go_num, rfl, HS3.out⟩
    · have hq3 : (t.kd : Int) % 3 = 2 := by omega
      have HBY := Lib.hid (bytes16_calls HS5.out.bd)
      obtain ⟨s, hs⟩ : ∃ s, s = tx14 (boardB L) := ⟨_, rfl⟩
      rw [← hs] at HBY
      have HCV : Hid (∀ W, ∃ A c w1, (convert 9 40 (.string s)).run Try.prog W = .ok (.slice A s.size c) w1 ∧ Rd w1 (.slice A s.size c) (boardB L) ∧ Below W.heap.size W w1) := fun W => by
        have := conv16 W s
        rw [hs, tx14_list] at this
        rw [hs]
        exact this
      have hbl : (boardB L).length ≤ 1099511627776 := by
        have := HST.out.bd.good.len
        unfold boardB
        rw [List.length_cons]
        omega
      have HOFC : Hid (∀ v W, Rd W v (boardB L) → Calls Try.prog 11 #[v] W (Made W (boardB L))) := fun v W hv => of_calls v (boardB L) W hv hbl
      have HRE : Hid (∀ W R, Rdr W R ⟨boardB L, 0⟩ → Calls Try.prog 13 #[.pointer (some ⟨R, 0, none⟩)] W fun e w' => ∃ B A, e = .returned (.pointer (some ⟨B, 0, none⟩)) ∧ W.heap.size ≤ B ∧ W.heap.size ≤ A ∧ Rdr w' R ⟨[], 0⟩ ∧ Turns (fun j => j = R) W w' ∧ Bd16 w' B A L.length L) := fun W R hW => Read16_calls L HST.out.bd.good hW
      unfold Made at HOFC
      clear hs hbl
      go_wp2_with fail
      clear c0 c1 c2 a0 a1 a2
      generalize wo.alloc (.cells #[.int .u8 (t.kd : Int), .int .u8 (t.nd : Int), .int .u8 (t.rl : Int)] 31) = w5 at *
      generalize hXX : wo.heap.size = X at *
      with_reducible refine HBY.out.mono ?_
      rintro e w6 ⟨rfl, hb6⟩
      obtain ⟨A6, c6, w7, hcv, hrd7, hb7⟩ := HCV.out w6
      have HRD7 := Lib.hid hrd7
      have HS7 := Lib.hid (HS5.out.later (next14 hb6 hb7))
      clear hrd7 hb7 hb6 HBY HCV HST HS5 HA5
      go_wp2_with fail
      with_reducible refine (HOFC.out _ _ HRD7.out).mono ?_
      rintro e w8 ⟨R, hR, rfl, hr8, ht8⟩
      have HR8 := Lib.hid hr8
      have HS8 := Lib.hid (HS7.out.later (still14 ht8))
      have hD7 : D < w7.heap.size := HS7.out.doc.lt
      have h7s : w.heap.size ≤ w7.heap.size := HS7.out.bel.size
      have h8s : w7.heap.size ≤ w8.heap.size := ht8.size
      clear hr8 ht8 HRD7 HS7 HOFC hcv
      go_wp2_with fail
      with_reducible refine (HRE.out _ _ HR8.out).mono ?_
      rintro e w9 ⟨B9, A9, rfl, hB9, hA9, hr9, ht9, hbd9⟩
      have HEN := Lib.hid (rend_calls R _ w9 hr9)
      have HS9 : Hid (StP16 w w9 D B9 A9 L.length L) := ⟨hbd9, HS8.out.doc.turns ht9 (fun e => by have := e; omega), ⟨by omega, by omega, HS8.out.lt.2.2⟩, below_turns16 HS8.out.bel ht9 (fun i e => by have := e; omega)⟩
      have hwB9 : w.heap.size ≤ B9 := by omega
      clear hB9 hA9 hr9 ht9 hbd9 HR8 HS8 HRE
      obtain ⟨L9, hL9⟩ : ∃ L9, L9 = L := ⟨_, rfl⟩
      rw [← hL9] at HS9
      have HLN9 : Hid (L9.length = N) := by rw [hL9]; exact HLN.out
      clear hL9 HLN
      go_wp2_with fail
      with_reducible refine HEN.out.mono ?_
      rintro e w9' ⟨rfl, rfl⟩
      rw [show endS ⟨[], 0⟩ = 0 from rfl]
      clear HEN
      go_wp2
      obtain ⟨ll, hll⟩ : ∃ ll, ll = lacks16 L9 r N := ⟨_, rfl⟩
      obtain ⟨m, hm⟩ : ∃ m, m = ll.length := ⟨_, rfl⟩
      obtain ⟨y, hy⟩ : ∃ y, y = allK16 L9 r N := ⟨_, rfl⟩
      have HLA : Hid (∀ W, Below w9.heap.size w9 W → Calls Try.prog 15 #[.pointer (some ⟨B9, 0, none⟩), .int .u8 (r : Int)] W fun e w' => ∃ v, e = .returned v ∧ (∃ A c, v = .slice A m c) ∧ Rd w' v ll ∧ Below W.heap.size W w') := fun W hW => by
        have := Lacking16_calls (HS9.out.bd.later hW) r hr
        rw [HLN9.out, ← hll] at this
        exact this.mono fun e w' ⟨v, he, ho, _, ht⟩ => ⟨v, he, by rw [hm]; exact owns_shape ho, Rd.of_own ho, still14 ht⟩
      have HLR : Hid (∀ W, Calls Try.prog 16 #[.agg (docA L9), .int .u8 (r : Int)] W fun e w' => ∃ v, e = .returned v ∧ (∃ A c, v = .slice A m c) ∧ Rd w' v ll ∧ Below W.heap.size W w') := fun W => by
        have := rLacking16_calls L9 HS9.out.bd.good r hr W
        rw [HLN9.out, ← hll] at this
        exact this.mono fun e w' ⟨v, he, ho, _, ht⟩ => ⟨v, he, by rw [hm]; exact owns_shape ho, Rd.of_own ho, still14 ht⟩
      have HAL : Hid (∀ W, Below w9.heap.size w9 W → Calls Try.prog 18 #[.pointer (some ⟨B9, 0, none⟩), .int .u8 (r : Int)] W (Says14 (.bool y) W)) := fun W hW => by
        have := All16_calls (HS9.out.bd.later hW) r hr
        rw [HLN9.out, ← hy] at this
        exact this
      have HSA : Hid (∀ W, Below w9.heap.size w9 W → Calls Try.prog 17 #[.pointer (some ⟨B9, 0, none⟩), .agg (docA L9)] W (Says14 (.bool true) W)) := fun W hW => Same16_calls (HS9.out.bd.later hW)
      have m1 : ((m : Int) == 0) = y := by rw [hm, hll, hy]; exact lacks16_noneI L9 r N
      have m2 : decide (m = 0) = y := by rw [hm, hll, hy]; exact lacks16_none L9 r N
      have m3 : (m == 0) = y := by rw [← m2]; cases m <;> rfl
      have y1 : (y != y) = false := by cases y <;> rfl
      clear hll hm hy
      go_wp2
      refine wp_region_inv (by kernel_rfl) (fun W => Below w9.heap.size w9 W) (YTl16 B9 r m L9 ll) ?F22c ?hF22c (by kernel_rfl) (by kernel_rfl) (drew14 (Below.refl _ _)) ?step22c ?fin22c
      case hF22c =>
        intro x
        simp only [List.map_cons, List.map_nil, putL, Act.put, List.setIfInBounds_toArray, List.set_cons_zero, List.set_cons_succ, Nat.zero_add, Nat.reduceAdd]
        exact rfl
      case step22c =>
        refine ⟨?_, ?_, ?_, ?_, ?_, ?_, ?_, ?_, trivial⟩
        all_goals intro z W hW hdep K hK
        · clear hdep
          go_simp
          exact hK _ _ rfl hW (fun _ _ h => h)
        · clear hdep
          go_simp
          exact hK _ _ rfl hW (fun _ _ h => h)
        · have h0 : z 0 = _ := hdep 0 rfl
          have h1 : z 1 = _ := hdep 1 rfl
          clear hdep
          simp only [h0, h1] at hK
          go_simp
          refine (HLA.out W hW).mono ?_
          rintro e' W' ⟨v, rfl, hsh, hrd, hb⟩
          exact hK _ _ ⟨hsh, hrd⟩ (next14 hW hb) (fun j _ h => YTl16_keep hb j _ h)
        · refine step_load16 (by rfl) 29 (.tmp 8) rfl D rfl 29 (docA L9) _ (HS9.out.doc.later hW) Try.underlying29 rfl (sizeDoc16A L9) ?_
          exact hK _ _ rfl hW (fun _ _ h => h)
        · clear hdep
          go_simp
          exact hK _ _ rfl hW (fun _ _ h => h)
        · have h3 : z 3 = _ := hdep 3 rfl
          have h4 : z 4 = _ := hdep 4 rfl
          clear hdep
          simp only [h3, h4] at hK
          go_simp
          refine (HLR.out W).mono ?_
          rintro e' W' ⟨v, rfl, hsh, hrd, hb⟩
          exact hK _ _ ⟨hsh, hrd⟩ (next14 hW hb) (fun j _ h => YTl16_keep hb j _ h)
        · have h2 := hdep 2 rfl
          clear hdep
          go_simp
          exact hK _ _ h2 hW (fun _ _ h => h)
        · have h5 := hdep 5 rfl
          clear hdep
          go_simp
          exact hK _ _ h5 hW (fun _ _ h => h)
      case fin22c =>
        intro z W hW hY
        obtain ⟨⟨A6, c6, h6⟩, hr6⟩ := hY 6 (by decide)
        obtain ⟨⟨A7, c7, h7⟩, hr7⟩ := hY 7 (by decide)
        rw [h6] at hr6
        rw [h7] at hr7
        have HR6 := Lib.hid hr6
        have HR7 := Lib.hid hr7
        have HWW := Lib.hid hW
        have HX9 : Hid (W.heap[D]? = some (.cells (docA L9) 29 (0, 0))) := HS9.out.doc.later hW
        clear hY hW hr6 hr7 HLA HLR
        rw [h6, h7]
        clear h6 h7
        go_wp2_with (with_reducible refine wpList_load_row rfl 29 (.tmp 8) rfl D rfl 29 (docA L9) (0, 0) _ HX9.out Try.underlying29 rfl (sizeDoc16A L9) ?_)
        with_reducible refine (HSA.out _ HWW.out).mono ?_
        rintro e' W2 ⟨rfl, hb⟩
        have HW2 := Lib.hid (next14 HWW.out hb)
        have hcv6 := conv14 (HR6.out.still (turns14 hb))
        have hcv7 := conv14 (HR7.out.still (turns14 hb))
        clear hb HSA HWW HX9 HR6 HR7
        go_wp2_with fail
        with_reducible refine (HAL.out _ HW2.out).mono ?_
        rintro e' W3 ⟨rfl, hb⟩
        have HS3 : Hid (∃ A c L, L.length = N ∧ StP16 w W3 D B9 A c L) := ⟨_, _, _, HLN9.out, HS9.out.later (next14 HW2.out hb)⟩
        clear hb HAL HW2 hcv6 hcv7 HS9 HLN9
        go_wp2
        go_roundg (n - (k + 1))
        case measure => omega
        case rel => exact ⟨k + 1, B9, by omega, by omega, by go_num, rfl, HS3.out⟩
end Go.Proofs.Ytkcddihigagknaa
