/-
  OpReplies walked: a reply's bytes are the document's, and it is got from them; of any bytes the reply is the document's, or what is wrong first.
  Conditions: the table reads as it is laid.
-/
import Derived.Test.YtacmjmfdhegojaaDoorOpRepM
import Derived.Test.YtacmjmfdhegojaaDoorOpRep
namespace Go.Proofs.YtacmjmfdhegojaaDoor
open Go.RowKit

theorem texts_len14 : ∀ (ls : List ByteArray), (∀ s ∈ ls, s.size ≤ 50) → (textsB ls).length ≤ 52 * ls.length
  | [], _ => Nat.le_refl _
  | t :: ls, h => by
    have h1 := texts_len14 ls (fun s hs => h s (List.mem_cons_of_mem _ hs))
    have h2 := h t (List.mem_cons_self ..)
    have e : textsB (t :: ls) = textB t ++ textsB ls := rfl
    rw [e, List.length_append, textB_length, List.length_cons]
    omega
/-- What each operation makes: the bytes beside the document's. -/
def YRe14 (R k : Nat) (sl : Value) (s : ByteArray) (v : Value) : Nat → Value → Prop
  | 0, x => x = sl
  | 1, x => x = .string s
  | 2, x => x = .pointer (some ⟨R, 0, none⟩)
  | 3, x => x = .int .i64 k
  | 4, x => x = v
  | 5, x => x = .agg #[.int .i64 k, v]
  | 6, x => x = .string s
  | 7, x => x = .bool false
  | _, _ => True
/-- The same: what is got, written again. -/
def YRz14 (pv sl : Value) (s : ByteArray) (bs : List UInt8) : Nat → Value → World → Prop
  | 0, x, _ => x = .int .i64 0
  | 1, x, _ => x = .bool false
  | 2, x, _ => x = .bool false
  | 3, x, _ => x = pv
  | 4, x, W => Rd W x bs
  | 5, x, _ => x = .string s
  | 6, x, _ => x = sl
  | 7, x, _ => x = .string s
  | _, x, _ => x = .bool true
theorem YRz14_keep {pv sl : Value} {s : ByteArray} {bs : List UInt8} {W W' : World} (hb : Below W.heap.size W W') (j : Nat) (z : Value) (h : YRz14 pv sl s bs j z W) : YRz14 pv sl s bs j z W' := by
  match j, h with
  | 0, h => exact h
  | 1, h => exact h
  | 2, h => exact h
  | 3, h => exact h
  | 4, h => exact Rd.still h (turns14 hb)
  | 5, h => exact h
  | 6, h => exact h
  | 7, h => exact h
  | _ + 8, h => exact h
theorem gn_of14 (e : Int) (v : Value) (w : World) : RpAt (w.alloc (.cells #[.int .i64 e, v] 42)) w.heap.size e v := heap_alloc_new w _
theorem qn_of14 (e : Int) (v : Value) (w : World) : RqAt (w.alloc (.cells #[.int .i64 e, v] 46)) w.heap.size e v := heap_alloc_new w _

set_option maxRecDepth 100000 in
set_option maxHeartbeats 1000000 in
theorem oreplies14_walk (x : Nat) (A1 A2 : Option Addr) (c1 c2 : Nat) (ss : List ByteArray) (bs : List UInt8) (w : World) (h : Laid14 w) (hx : x < 256) (h1 : RdS w A1 ss) (hl1 : ss.length ≤ c1) (hc1 : c1 ≤ 9223372036854775807) (h2 : Rd w (.slice A2 bs.length c2) bs) :
    Calls Tryd.prog 5 #[.int .u8 x, .slice A1 ss.length c1, .slice A2 bs.length c2] w fun e w' => e = .returned (.bool true) ∧ Below w.heap.size w w' := by
  have HL := Lib.hid h
  have HLV := Lib.hid (fun W (hw : Laid14 W) => lives14_calls W hw)
  clear h
  by_cases hn1 : 10 < ss.length
  · have d1 : decide ((ss.length : Int) > 10) = true := by simp; omega
    clear hn1 h1 h2
    generalize ss.length = n1 at *
    generalize bs.length = n2 at *
    go_enter Tryd.func5, Tryd.ntmps5
    go_wp2_with fail
    with_reducible refine (HLV.out _ HL.out).mono ?_
    rintro e w1 ⟨rfl, hb⟩
    have HB1 := Lib.hid hb
    have HL1 := Lib.hid (HL.out.later hb)
    clear hb
    go_wp2_with fail
    with_reducible refine (HLV.out _ HL1.out).mono ?_
    rintro e w2 ⟨rfl, hb⟩
    have HB2 := Lib.hid (next14 HB1.out hb)
    clear hb
    go_wp2
    go_ret
    exact ⟨rfl, HB2.out⟩
  by_cases hn2 : 300 < bs.length
  · have d2 : decide ((bs.length : Int) > 300) = true := by simp; omega
    have d1 : decide ((ss.length : Int) > 10) = false := by simp; omega
    clear hn2 h1 h2
    generalize ss.length = n1 at *
    generalize bs.length = n2 at *
    go_enter Tryd.func5, Tryd.ntmps5
    go_wp2_with fail
    with_reducible refine (HLV.out _ HL.out).mono ?_
    rintro e w1 ⟨rfl, hb⟩
    have HB1 := Lib.hid hb
    have HL1 := Lib.hid (HL.out.later hb)
    clear hb
    go_wp2_with fail
    with_reducible refine (HLV.out _ HL1.out).mono ?_
    rintro e w2 ⟨rfl, hb⟩
    have HB2 := Lib.hid (next14 HB1.out hb)
    clear hb
    go_wp2
    go_ret
    exact ⟨rfl, HB2.out⟩
  have d1 : decide ((ss.length : Int) > 10) = false := by simp; omega
  have d2 : decide ((bs.length : Int) > 300) = false := by simp; omega
  obtain ⟨k, hk⟩ : ∃ k : Nat, k = x % 19 := ⟨_, rfl⟩
  have hk18 : k ≤ 18 := by omega
  have hcast : (x : Int) % 19 = (k : Int) := by omega
  have HSS := Lib.hid h1
  have HPU : Hid (∀ (_ : ∀ s ∈ ss, s.size ≤ 50) W, Below w.heap.size w W → Calls Tryd.prog 14 #[.agg #[.int .i64 k, .slice A1 ss.length c1]] W (Told14 W (repB14 k ss))) := fun h50 W hb => Put14_calls k A1 c1 ss W (by omega) (h1.later14 hb) ⟨by omega, fun s hs => by have := h50 s hs; omega⟩ hl1 hc1
  have HRP : Hid (∀ (_ : ∀ s ∈ ss, s.size ≤ 50) W, Below w.heap.size w W → Calls Tryd.prog 15 #[.agg #[.int .i64 k, .slice A1 ss.length c1]] W (Says14 (.string (tx14 (repB14 k ss))) W)) := fun h50 W hb => rPut14_calls k A1 c1 ss W (by omega) (h1.later14 hb) ⟨by omega, fun s hs => by have := h50 s hs; omega⟩
  have HGT : Hid (∀ (_ : ∀ s ∈ ss, s.size ≤ 50) v W, Rd W v (repB14 k ss) → Calls Tryd.prog 16 #[v] W fun e w' => ∃ A c, e = .returned (.tuple #[.agg #[.int .i64 k, .slice A (tls14 k ss).length c], .int .i64 0]) ∧ RdS w' A (tls14 k ss) ∧ Below W.heap.size W w') := fun h50 v W hv => by
    obtain ⟨e1, e2, e3⟩ := gback14 (k := k) (ss := ss) hk18 (by omega) h50
    have hrl : (repB14 k ss).length ≤ 1000 := by
      have hok : (tls14 k ss).length ≤ 10 ∧ ∀ s ∈ tls14 k ss, s.size ≤ 50 := by
        unfold tls14
        split
        · exact ⟨by omega, h50⟩
        · exact ⟨Nat.zero_le _, fun s hs => by cases hs⟩
      have := texts_len14 (tls14 k ss) hok.2
      unfold repB14 rowB
      simp only [List.length_append, le_length]
      omega
    refine (Get14_calls v (repB14 k ss) W hv hrl).mono ?_
    rintro e w' (⟨h, _⟩ | ⟨_, A, c, he, hs, _, _, hb⟩)
    · exact absurd e1 h
    · rw [e2, e3] at he
      rw [e3] at hs
      exact ⟨A, c, he, hs, hb⟩
  have htt : tls14 k (tls14 k ss) = tls14 k ss := by
    unfold tls14
    by_cases h0 : (k : Int) = 0
    · rw [if_pos h0, if_pos h0]
    · rw [if_neg h0, if_neg h0]
  have hsam : sam14 k (tls14 k ss) k ss = true ∧ sam14 k ss k (tls14 k ss) = true := by
    unfold sam14
    rw [htt]
    simp
  have htl : (tls14 k ss).length ≤ 9223372036854775807 := by
    have : (tls14 k ss).length ≤ ss.length := by unfold tls14; split; exact Nat.le_refl _; exact Nat.zero_le _
    omega
  have HSA : Hid (∀ A c W, Below w.heap.size w W → RdS W A (tls14 k ss) → Calls Tryd.prog 17 #[.agg #[.int .i64 k, .slice A (tls14 k ss).length c], .agg #[.int .i64 k, .slice A1 ss.length c1]] W (Says14 (.bool true) W)) := fun A c W hb hr => by
    have := Same14_calls k k A A1 c c1 (tls14 k ss) ss W hr (h1.later14 hb) htl
    rwa [hsam.1] at this
  have HSB : Hid (∀ A c W, Below w.heap.size w W → RdS W A (tls14 k ss) → Calls Tryd.prog 17 #[.agg #[.int .i64 k, .slice A1 ss.length c1], .agg #[.int .i64 k, .slice A (tls14 k ss).length c]] W (Says14 (.bool true) W)) := fun A c W hb hr => by
    have := Same14_calls k k A1 A c1 c ss (tls14 k ss) W (h1.later14 hb) hr (by omega)
    rwa [hsam.2] at this
  have HST : Hid (k = 0 → ∀ A c W, Below w.heap.size w W → RdS W A (tls14 k ss) → Calls Tryd.prog 18 #[.slice A (tls14 k ss).length c, .slice A1 ss.length c1] W (Says14 (.bool true) W)) := fun h0 A c W hb hr => by
    have e : tls14 k ss = ss := by unfold tls14; rw [if_pos (by omega)]
    rw [e] at hr ⊢
    have := samet14_calls A A1 c c1 ss ss W hr (h1.later14 hb) (by omega)
    rwa [decide_eq_true rfl] at this
  have HQ0 : Hid (k ≠ 0 → (tls14 k ss).length = 0) := fun h0 => by unfold tls14; rw [if_neg (by omega)]; rfl
  -- of any bytes
  have HGB : Hid (∀ W, Below w.heap.size w W → Calls Tryd.prog 16 #[.slice A2 bs.length c2] W (Got14 W bs)) := fun W hb => Get14_calls _ bs W (h2.still (turns14 hb)) (by omega)
  have HRG : Hid (∀ W, Calls Tryd.prog 19 #[.string (tx14 bs)] W (RGot14 W bs)) := fun W => rGet14_calls bs W (by omega)
  have HCB : Hid (∀ W, Below w.heap.size w W → (convert 27 9 (.slice A2 bs.length c2)).run Tryd.prog W = .ok (.string (tx14 bs)) W) := fun W hb => conv14 (h2.still (turns14 hb))
  have HSN : Hid (∀ W, Calls Tryd.prog 18 #[.slice none 0 0, .slice none 0 0] W (Says14 (.bool true) W)) := fun W => samet14_calls none none 0 0 [] [] W (fun h => absurd rfl h) (fun h => absurd rfl h) (Nat.zero_le _)
  have hgg := fun e => ggot14 (bs := bs) e (by omega)
  have HSQ : Hid (gre14 bs = 0 → ∀ A c A' c' W, RdS W A (gss14 bs) → RdS W A' (gss14 bs) → Calls Tryd.prog 18 #[.slice A (gss14 bs).length c, .slice A' (gss14 bs).length c'] W (Says14 (.bool true) W)) := fun e A c A' c' W hr hr' => by
    have := samet14_calls A A' c c' (gss14 bs) (gss14 bs) W hr hr' (by have := (hgg e).2.2.1; omega)
    rwa [decide_eq_true rfl] at this
  have HPP : Hid (gre14 bs = 0 → ∀ A c W, RdS W A (gss14 bs) → (gss14 bs).length ≤ c → c ≤ 9223372036854775807 → Calls Tryd.prog 14 #[.agg #[.int .i64 (gk14 bs), .slice A (gss14 bs).length c]] W (Told14 W bs)) := fun e A c W hr hl hc => by
    obtain ⟨g1, g2, g3⟩ := hgg e
    have := Put14_calls (gk14 bs) A c (gss14 bs) W g1 hr g3 hl hc
    rwa [g2] at this
  unfold Got14 at HGB
  unfold RGot14 at HRG
  clear hgg htt hsam htl h1 h2 hl1 hc1 hk
  generalize tls14 k ss = ls at *
  generalize hrb : repB14 k ss = rb at *
  clear hrb
  obtain ⟨q, hq⟩ : ∃ q, q = ls.length := ⟨_, rfl⟩
  rw [← hq] at HGT HSA HSB HST HQ0
  clear hq
  obtain ⟨n1, hn⟩ : ∃ n, n = ss.length := ⟨_, rfl⟩
  have HN := Lib.hid hn
  rw [← hn] at HPU HRP HSA HSB HST d1 ⊢
  have hlen : n1 ≤ 10 := by omega
  clear hn hn1 hn2
  generalize gre14 bs = re at *
  generalize gk14 bs = k5 at *
  generalize gss14 bs = ls5 at *
  obtain ⟨q5, hq5⟩ : ∃ q, q = ls5.length := ⟨_, rfl⟩
  rw [← hq5] at HGB HRG HSQ HPP
  clear hq5
  generalize bs.length = n2 at *
  generalize hsB : tx14 bs = sB at *
  go_enter Tryd.func5, Tryd.ntmps5
  go_wp2_with fail
  with_reducible refine (HLV.out _ HL.out).mono ?_
  rintro e w1 ⟨rfl, hb⟩
  have HB1 := Lib.hid hb
  clear hb HLV HL
  go_wp2
  go_loopg [8, 32] n1 (fun gg _ i wr => ∃ j : Nat, j ≤ n1 ∧ n1 - j ≤ gg ∧ i = .int .i64 j ∧ Hid (∀ p (hp : p < ss.length), p < j → ss[p].size ≤ 50) ∧ Hid (Below w.heap.size w wr))
  case atStart => exact ⟨0, Nat.zero_le _, by omega, rfl, fun p _ h => absurd h (Nat.not_lt_zero _), HB1.out⟩
  case round =>
    obtain ⟨j, hj, hg, rfl, H50, HW⟩ := hrel
    by_cases hlt : j < n1
    · have hjl : j < ss.length := HN.out ▸ hlt
      obtain ⟨b, off, rfl, hc⟩ := (HSS.out.later14 HW.out).at14 j hjl
      by_cases h50 : 50 < ss[j].size
      · have d5 : decide ((ss[j].size : Int) > 50) = true := by simp; omega
        generalize ss[j] = t at *
        clear h50 H50 HPU HRP HGT HSA HSB HST HGB HRG HSQ HPP
        go_wp2
        go_ret
        exact ⟨rfl, HW.out⟩
      · have d5 : decide ((ss[j].size : Int) > 50) = false := by simp; omega
        have H51 : Hid (∀ p (hp : p < ss.length), p < j + 1 → ss[p].size ≤ 50) := fun p hp h => by
          rcases Nat.lt_or_eq_of_le (Nat.le_of_lt_succ h) with h | rfl
          · exact H50.out p hp h
          · omega
        generalize ss[j] = t at hc d5
        clear h50 H50 HPU HRP HGT HSA HSB HST HGB HRG HSQ HPP
        go_wp2
        go_roundg (n1 - (j + 1))
        case measure => omega
        case rel => exact ⟨j + 1, by omega, by omega, by go_num, H51.out, HW.out⟩
    · obtain rfl : j = n1 := by omega
      have h50 : ∀ s ∈ ss, s.size ≤ 50 := fun s hs => by
        obtain ⟨p, hp, rfl⟩ := List.getElem_of_mem hs
        exact H50.out p hp (by have := HN.out; omega)
      have HPU1 := Lib.hid (HPU.out h50)
      have HRP1 := Lib.hid (HRP.out h50)
      have HGT1 := Lib.hid (HGT.out h50)
      clear HPU HRP HGT h50 H50 HSS HB1
      go_wp2_with fail
      rw [hcast]
      with_reducible refine (HPU1.out _ (alloc14 HW.out _)).mono ?_
      rintro e w2 ⟨v, rfl, ho, hv, hb⟩
      obtain ⟨A3, c3, rfl⟩ := owns_shape ho
      have hR := (gn_of14 k (.slice A1 j c1) wr).below hb
      have hRd := Rd.of_own ho
      have hB2 := (alloc14 HW.out (.cells #[.int .i64 (k : Int), .slice A1 j c1] 42)).trans (hb.mono (by have := HW.out.size; simp; omega))
      have HR2 := Lib.hid hR
      have HRd2 := Lib.hid hRd
      have HB2 := Lib.hid hB2
      have LT : wr.heap.size < w2.heap.size := hR.lt
      clear ho hv hb hR hRd hB2 HPU1 HW
      generalize wr.heap.size = R at *
      have HCV : Hid (∀ W, Below w2.heap.size w2 W → (convert 27 9 (.slice A3 rb.length c3)).run Tryd.prog W = .ok (.string (tx14 rb)) W) := fun W hb => conv14 (HRd2.out.still (turns14 hb))
      have HGT2 : Hid (∀ W, Below w2.heap.size w2 W → Calls Tryd.prog 16 #[.slice A3 rb.length c3] W fun e w' => ∃ A c, e = .returned (.tuple #[.agg #[.int .i64 k, .slice A q c], .int .i64 0]) ∧ RdS w' A ls ∧ Below W.heap.size W w') := fun W hb => HGT1.out _ W (HRd2.out.still (turns14 hb))
      have HRP2 : Hid (∀ W, Below w2.heap.size w2 W → Calls Tryd.prog 15 #[.agg #[.int .i64 k, .slice A1 j c1]] W (Says14 (.string (tx14 rb)) W)) := fun W hb => HRP1.out W (next14 HB2.out hb)
      clear HRd2 HGT1 HRP1
      generalize rb.length = m3 at *
      generalize tx14 rb = sT at *
      have hss : (sT.toList != sT.toList) = false := by simp
      go_wp2
      refine wp_region_inv (by kernel_rfl) (fun W => Below w2.heap.size w2 W) (fun jj v _ => YRe14 R k (.slice A3 m3 c3) sT (.slice A1 j c1) jj v) ?F ?hF (by kernel_rfl) (by kernel_rfl) (drew14 (Below.refl _ _)) ?step ?fin
      case hF =>
        intro x
        simp only [List.map_cons, List.map_nil, putL, Act.put, List.setIfInBounds_toArray, List.set_cons_zero, List.set_cons_succ, Nat.zero_add, Nat.reduceAdd]
        exact rfl
      case step =>
        refine ⟨?_, ?_, ?_, ?_, ?_, ?_, ?_, ?_, trivial⟩
        all_goals intro x W hW hdep K hK
        · clear hdep
          go_simp
          exact hK _ _ rfl hW (fun _ _ h => h)
        · have h0 : x 0 = _ := hdep 0 rfl
          have hcv := HCV.out W hW
          clear hdep
          simp only [h0] at hK
          go_simp
          exact hK _ _ rfl hW (fun _ _ h => h)
        · clear hdep
          go_simp
          exact hK _ _ rfl hW (fun _ _ h => h)
        · have h2 : x 2 = _ := hdep 2 rfl
          have k0 := (HR2.out.below hW).c0
          clear hdep
          simp only [h2] at hK
          go_simp
          exact hK _ _ rfl hW (fun _ _ h => h)
        · clear hdep
          go_simp
          exact hK _ _ rfl hW (fun _ _ h => h)
        · have h3 : x 3 = _ := hdep 3 rfl
          have h4 : x 4 = _ := hdep 4 rfl
          clear hdep
          simp only [h3, h4] at hK
          go_simp
          exact hK _ _ rfl hW (fun _ _ h => h)
        · have h5 : x 5 = _ := hdep 5 rfl
          clear hdep
          simp only [h5] at hK
          go_simp
          refine (HRP2.out W hW).mono ?_
          rintro e W' ⟨rfl, hb⟩
          exact hK _ _ rfl (next14 hW hb) (fun _ _ h => h)
        · have h1 : x 1 = _ := hdep 1 rfl
          have h6 : x 6 = _ := hdep 6 rfl
          clear hdep
          simp only [h1, h6] at hK
          go_simp
          exact hK _ _ rfl hW (fun _ _ h => h)
      case fin =>
        intro y W hW hY
        have h7 : y 7 = .bool false := hY 7 (by decide)
        have HR3 := Lib.hid (HR2.out.below hW)
        have HB3 := Lib.hid (next14 HB2.out hW)
        have HG3 := Lib.hid (HGT2.out W hW)
        clear hY hW HR2 HB2 HCV HGT2 HRP2 hss LT
        rw [h7]
        clear h7
        go_wp2_with fail
        with_reducible refine HG3.out.mono ?_
        rintro e w4 ⟨A4, c4, rfl, hs4, hb4⟩
        have hR4 := HR3.out.below hb4
        have hlt4 : R < w4.heap.size := hR4.lt
        have r0 := hR4.c0
        have r1 := hR4.c1
        have hz := alloc14 (Below.refl _ w4) (.cells #[.int .i64 (k : Int), .slice A4 q c4] 42)
        have HR5 := Lib.hid (hR4.below hz)
        have HQ5 := Lib.hid (gn_of14 k (.slice A4 q c4) w4)
        have HS5 := Lib.hid (hs4.later14 hz)
        have HB5 := Lib.hid (next14 (next14 HB3.out hb4) hz)
        clear hs4 hb4 hR4 hz HR3 HB3 HG3
        go_wp2_with fail
        with_reducible refine (HSA.out A4 c4 _ HB5.out HS5.out).mono ?_
        rintro e w6 ⟨rfl, hb⟩
        have HR6 := Lib.hid (HR5.out.below hb)
        have HQ6 := Lib.hid (HQ5.out.below hb)
        have HS6 := Lib.hid (HS5.out.later14 hb)
        have HB6 := Lib.hid (next14 HB5.out hb)
        clear hb r0 r1 HR5 HQ5 HS5 HB5 HSA
        have r0 := HR6.out.c0
        have r1 := HR6.out.c1
        have q0 := HQ6.out.c0
        have q1 := HQ6.out.c1
        go_wp2_with fail
        with_reducible refine (HSB.out A4 c4 _ HB6.out HS6.out).mono ?_
        rintro e w7 ⟨rfl, hb⟩
        have HR7 := Lib.hid (HR6.out.below hb)
        have HQ7 := Lib.hid (HQ6.out.below hb)
        have HS7 := Lib.hid (HS6.out.later14 hb)
        have HB7 := Lib.hid (next14 HB6.out hb)
        clear hb r0 r1 q0 q1 HR6 HQ6 HS6 HB6 HSB
        have r0 := HR7.out.c0
        have r1 := HR7.out.c1
        have q0 := HQ7.out.c0
        have q1 := HQ7.out.c1
        by_cases h0 : k = 0
        · have dk : ((k : Int) != 0) = false := by rw [h0]; rfl
          have dk2 : ((k : Int) == 0) = true := by rw [h0]; rfl
          have HST2 := Lib.hid (HST.out h0)
          clear h0 HST HQ0
          go_wp2_with fail
          with_reducible refine (HST2.out A4 c4 _ HB7.out HS7.out).mono ?_
          rintro e w8 ⟨rfl, hb⟩
          have HB8 := Lib.hid (next14 HB7.out hb)
          clear hb HB7 r0 r1 q0 q1 HR7 HQ7 HS7 HST2
          go_wp2_with fail
          refine (HGB.out _ HB8.out).mono ?_
          rintro e w9 (⟨hre, rfl, hb⟩ | ⟨hre, A5, c5, rfl, hs5, hl5, hc5, hb⟩)
          · have HRE := Lib.hid hre
            have d0 : (re != 0) = true := by simpa using hre
            have dself : (re != re) = false := by simp
            clear hre
            have hz := alloc14 (Below.refl _ w9) (.cells #[.int .i64 0, .slice none 0 0] 42)
            have hP := gn_of14 0 (.slice none 0 0) w9
            have hB10 := next14 (next14 HB8.out hb) hz
            have HP10 := Lib.hid hP
            have HB10 := Lib.hid hB10
            have hcb := HCB.out _ hB10
            clear hb hz hP hB10 HB8
            go_wp2_with fail
            refine (HRG.out _).mono ?_
            rintro e w11 (⟨_, rfl, hb⟩ | ⟨h0, _⟩)
            · have hP11 := HP10.out.below hb
              have hltP := hP11.lt
              have p0 := hP11.c0
              have p1 := hP11.c1
              have hz := alloc14 (Below.refl _ w11) (.cells #[.int .i64 0, .slice none 0 0] 46)
              have HB12 := Lib.hid (next14 (next14 HB10.out hb) hz)
              clear hb hP11 hz HP10 HB10 hcb
              go_wp2_with fail
              with_reducible refine (HSN.out _).mono ?_
              rintro e w13 ⟨rfl, hb⟩
              have HB13 := Lib.hid (next14 HB12.out hb)
              clear hb HB12 p0 p1
              go_wp2
              go_quiet (fail)
              go_wp2
              go_ret
              exact ⟨rfl, drewN14 HB13.out _⟩
            · exact absurd h0 HRE.out
          · subst hre
            have hz := alloc14 (Below.refl _ w9) (.cells #[.int .i64 (k5 : Int), .slice A5 q5 c5] 42)
            have hP := gn_of14 k5 (.slice A5 q5 c5) w9
            have hB10 := next14 (next14 HB8.out hb) hz
            have HP10 := Lib.hid hP
            have HB10 := Lib.hid hB10
            have HS10 := Lib.hid (hs5.later14 hz)
            have hcb := HCB.out _ hB10
            have HSQ2 := Lib.hid (HSQ.out rfl)
            have HPP2 : Hid (∀ W, RdS W A5 ls5 → Calls Tryd.prog 14 #[.agg #[.int .i64 k5, .slice A5 q5 c5]] W (Told14 W bs)) := fun W hr => HPP.out rfl A5 c5 W hr hl5 hc5
            clear hb hz hP hB10 HB8 hs5 hl5 hc5 HSQ HPP
            go_wp2_with fail
            refine (HRG.out _).mono ?_
            rintro e w11 (⟨h0, _⟩ | ⟨_, A6, c6, rfl, hs6, hb⟩)
            · exact absurd rfl h0
            have hP11 := HP10.out.below hb
            have hltP := hP11.lt
            have p0 := hP11.c0
            have p1 := hP11.c1
            have dself : ((k5 : Int) != (k5 : Int)) = false := by simp
            have hz := alloc14 (Below.refl _ w11) (.cells #[.int .i64 (k5 : Int), .slice A6 q5 c6] 46)
            have HB12 := Lib.hid (next14 (next14 HB10.out hb) hz)
            have HS12 := Lib.hid ((HS10.out.later14 hb).later14 hz)
            have HT12 := Lib.hid (hs6.later14 hz)
            have HP12 := Lib.hid (hP11.below hz)
            clear hb hP11 hz HP10 HB10 hcb HS10 hs6
            go_wp2_with fail
            with_reducible refine (HSQ2.out A5 c5 A6 c6 _ HS12.out HT12.out).mono ?_
            rintro e w13 ⟨rfl, hb⟩
            have HB13 := Lib.hid (next14 HB12.out hb)
            have HP13 := Lib.hid (HP12.out.below hb)
            have HS13 := Lib.hid (HS12.out.later14 hb)
            clear hb HB12 p0 p1 HS12 HT12 HP12 HSQ2
            go_wp2
            have hbb : (sB.toList == sB.toList) = true := by simp
            refine wp_region_inv (by kernel_rfl) (fun W => Below w13.heap.size w13 W) (YRz14 (.agg #[.int .i64 (k5 : Int), .slice A5 q5 c5]) (.slice A2 n2 c2) sB bs) ?F2 ?hF2 (by kernel_rfl) (by kernel_rfl) (drew14 (Below.refl _ _)) ?step2 ?fin2
            case hF2 =>
              intro x
              simp only [List.map_cons, List.map_nil, putL, Act.put, List.setIfInBounds_toArray, List.set_cons_zero, List.set_cons_succ, Nat.zero_add, Nat.reduceAdd]
              exact rfl
            case step2 =>
              refine ⟨?_, ?_, ?_, ?_, ?_, ?_, ?_, ?_, ?_, ?_, ?_, trivial⟩
              all_goals intro x W hW hdep K hK
              · clear hdep
                go_simp
                exact hK _ _ rfl hW (fun _ _ h => h)
              · have h0 : x 0 = _ := hdep 0 rfl
                clear hdep
                simp only [h0] at hK
                go_simp
                exact hK _ _ rfl hW (fun _ _ h => h)
              · have h1 : x 1 = _ := hdep 1 rfl
                clear hdep
                simp only [h1] at hK
                go_simp
                exact hK _ _ rfl hW (fun _ _ h => h)
              · have h2 : x 2 = _ := hdep 2 rfl
                have q := HP13.out.below hW
                have k0 := q.c0
                have k1 := q.c1
                clear q
                clear hdep
                simp only [h2] at hK
                go_simp
                exact hK _ _ rfl hW (fun _ _ h => h)
              · have h2 : x 2 = _ := hdep 2 rfl
                have h3 : x 3 = _ := hdep 3 rfl
                clear hdep
                simp only [h2, h3] at hK
                go_simp
                refine (HPP2.out W (HS13.out.later14 hW)).mono ?_
                rintro e W' ⟨v', rfl, ho, _, hb⟩
                exact hK _ _ (Rd.of_own ho) (next14 hW hb) (fun j z h => YRz14_keep hb j z h)
              · have h2 : x 2 = _ := hdep 2 rfl
                have r4 : Rd W (x 4) bs := hdep 4 rfl
                obtain ⟨A9, c9, e4⟩ := r4.shape
                rw [e4] at r4
                have hs := conv14 r4
                rw [hsB] at hs
                clear hdep
                simp only [h2, e4] at hK
                go_simp
                exact hK _ _ rfl hW (fun _ _ h => h)
              · have h2 : x 2 = _ := hdep 2 rfl
                clear hdep
                simp only [h2] at hK
                go_simp
                exact hK _ _ rfl hW (fun _ _ h => h)
              · have h2 : x 2 = _ := hdep 2 rfl
                have h6 : x 6 = _ := hdep 6 rfl
                have hcb := HCB.out W (next14 HB13.out hW)
                clear hdep
                simp only [h2, h6] at hK
                go_simp
                exact hK _ _ rfl hW (fun _ _ h => h)
              · have h2 : x 2 = _ := hdep 2 rfl
                have h5 : x 5 = _ := hdep 5 rfl
                have h7 : x 7 = _ := hdep 7 rfl
                clear hdep
                simp only [h2, h5, h7] at hK
                go_simp
                exact hK _ _ rfl hW (fun _ _ h => h)
              · have h2 : x 2 = _ := hdep 2 rfl
                have h8 : x 8 = _ := hdep 8 rfl
                clear hdep
                simp only [h2, h8] at hK
                go_simp
                exact hK _ _ rfl hW (fun _ _ h => h)
              · have h9 : x 9 = _ := hdep 9 rfl
                clear hdep
                simp only [h9] at hK
                go_simp
                exact hK _ _ rfl hW (fun _ _ h => h)
            case fin2 =>
              intro y W hW hY
              have h10 : y 10 = .bool true := hY 10 (by decide)
              have HB14 := Lib.hid (next14 HB13.out hW)
              clear hY hW
              rw [h10]
              go_wp2
              go_ret
              exact ⟨rfl, HB14.out⟩
        · have dk : ((k : Int) != 0) = true := by simp; omega
          have dk2 : ((k : Int) == 0) = false := by simp; omega
          have hq0 := HQ0.out h0
          subst hq0
          clear h0 HST HQ0
          go_wp2_with fail
          have HB8 := HB7
          clear HB7 HR7 HQ7 HS7
          generalize w7 = w8 at *
          refine (HGB.out _ HB8.out).mono ?_
          rintro e w9 (⟨hre, rfl, hb⟩ | ⟨hre, A5, c5, rfl, hs5, hl5, hc5, hb⟩)
          · have HRE := Lib.hid hre
            have d0 : (re != 0) = true := by simpa using hre
            have dself : (re != re) = false := by simp
            clear hre
            have hz := alloc14 (Below.refl _ w9) (.cells #[.int .i64 0, .slice none 0 0] 42)
            have hP := gn_of14 0 (.slice none 0 0) w9
            have hB10 := next14 (next14 HB8.out hb) hz
            have HP10 := Lib.hid hP
            have HB10 := Lib.hid hB10
            have hcb := HCB.out _ hB10
            clear hb hz hP hB10 HB8
            go_wp2_with fail
            refine (HRG.out _).mono ?_
            rintro e w11 (⟨_, rfl, hb⟩ | ⟨h0, _⟩)
            · have hP11 := HP10.out.below hb
              have hltP := hP11.lt
              have p0 := hP11.c0
              have p1 := hP11.c1
              have hz := alloc14 (Below.refl _ w11) (.cells #[.int .i64 0, .slice none 0 0] 46)
              have HB12 := Lib.hid (next14 (next14 HB10.out hb) hz)
              clear hb hP11 hz HP10 HB10 hcb
              go_wp2_with fail
              with_reducible refine (HSN.out _).mono ?_
              rintro e w13 ⟨rfl, hb⟩
              have HB13 := Lib.hid (next14 HB12.out hb)
              clear hb HB12 p0 p1
              go_wp2
              go_quiet (fail)
              go_wp2
              go_ret
              exact ⟨rfl, drewN14 HB13.out _⟩
            · exact absurd h0 HRE.out
          · subst hre
            have hz := alloc14 (Below.refl _ w9) (.cells #[.int .i64 (k5 : Int), .slice A5 q5 c5] 42)
            have hP := gn_of14 k5 (.slice A5 q5 c5) w9
            have hB10 := next14 (next14 HB8.out hb) hz
            have HP10 := Lib.hid hP
            have HB10 := Lib.hid hB10
            have HS10 := Lib.hid (hs5.later14 hz)
            have hcb := HCB.out _ hB10
            have HSQ2 := Lib.hid (HSQ.out rfl)
            have HPP2 : Hid (∀ W, RdS W A5 ls5 → Calls Tryd.prog 14 #[.agg #[.int .i64 k5, .slice A5 q5 c5]] W (Told14 W bs)) := fun W hr => HPP.out rfl A5 c5 W hr hl5 hc5
            clear hb hz hP hB10 HB8 hs5 hl5 hc5 HSQ HPP
            go_wp2_with fail
            refine (HRG.out _).mono ?_
            rintro e w11 (⟨h0, _⟩ | ⟨_, A6, c6, rfl, hs6, hb⟩)
            · exact absurd rfl h0
            have hP11 := HP10.out.below hb
            have hltP := hP11.lt
            have p0 := hP11.c0
            have p1 := hP11.c1
            have dself : ((k5 : Int) != (k5 : Int)) = false := by simp
            have hz := alloc14 (Below.refl _ w11) (.cells #[.int .i64 (k5 : Int), .slice A6 q5 c6] 46)
            have HB12 := Lib.hid (next14 (next14 HB10.out hb) hz)
            have HS12 := Lib.hid ((HS10.out.later14 hb).later14 hz)
            have HT12 := Lib.hid (hs6.later14 hz)
            have HP12 := Lib.hid (hP11.below hz)
            clear hb hP11 hz HP10 HB10 hcb HS10 hs6
            go_wp2_with fail
            with_reducible refine (HSQ2.out A5 c5 A6 c6 _ HS12.out HT12.out).mono ?_
            rintro e w13 ⟨rfl, hb⟩
            have HB13 := Lib.hid (next14 HB12.out hb)
            have HP13 := Lib.hid (HP12.out.below hb)
            have HS13 := Lib.hid (HS12.out.later14 hb)
            clear hb HB12 p0 p1 HS12 HT12 HP12 HSQ2
            go_wp2
            have hbb : (sB.toList == sB.toList) = true := by simp
            refine wp_region_inv (by kernel_rfl) (fun W => Below w13.heap.size w13 W) (YRz14 (.agg #[.int .i64 (k5 : Int), .slice A5 q5 c5]) (.slice A2 n2 c2) sB bs) ?F3 ?hF3 (by kernel_rfl) (by kernel_rfl) (drew14 (Below.refl _ _)) ?step3 ?fin3
            case hF3 =>
              intro x
              simp only [List.map_cons, List.map_nil, putL, Act.put, List.setIfInBounds_toArray, List.set_cons_zero, List.set_cons_succ, Nat.zero_add, Nat.reduceAdd]
              exact rfl
            case step3 =>
              refine ⟨?_, ?_, ?_, ?_, ?_, ?_, ?_, ?_, ?_, ?_, ?_, trivial⟩
              all_goals intro x W hW hdep K hK
              · clear hdep
                go_simp
                exact hK _ _ rfl hW (fun _ _ h => h)
              · have h0 : x 0 = _ := hdep 0 rfl
                clear hdep
                simp only [h0] at hK
                go_simp
                exact hK _ _ rfl hW (fun _ _ h => h)
              · have h1 : x 1 = _ := hdep 1 rfl
                clear hdep
                simp only [h1] at hK
                go_simp
                exact hK _ _ rfl hW (fun _ _ h => h)
              · have h2 : x 2 = _ := hdep 2 rfl
                have q := HP13.out.below hW
                have k0 := q.c0
                have k1 := q.c1
                clear q
                clear hdep
                simp only [h2] at hK
                go_simp
                exact hK _ _ rfl hW (fun _ _ h => h)
              · have h2 : x 2 = _ := hdep 2 rfl
                have h3 : x 3 = _ := hdep 3 rfl
                clear hdep
                simp only [h2, h3] at hK
                go_simp
                refine (HPP2.out W (HS13.out.later14 hW)).mono ?_
                rintro e W' ⟨v', rfl, ho, _, hb⟩
                exact hK _ _ (Rd.of_own ho) (next14 hW hb) (fun j z h => YRz14_keep hb j z h)
              · have h2 : x 2 = _ := hdep 2 rfl
                have r4 : Rd W (x 4) bs := hdep 4 rfl
                obtain ⟨A9, c9, e4⟩ := r4.shape
                rw [e4] at r4
                have hs := conv14 r4
                rw [hsB] at hs
                clear hdep
                simp only [h2, e4] at hK
                go_simp
                exact hK _ _ rfl hW (fun _ _ h => h)
              · have h2 : x 2 = _ := hdep 2 rfl
                clear hdep
                simp only [h2] at hK
                go_simp
                exact hK _ _ rfl hW (fun _ _ h => h)
              · have h2 : x 2 = _ := hdep 2 rfl
                have h6 : x 6 = _ := hdep 6 rfl
                have hcb := HCB.out W (next14 HB13.out hW)
                clear hdep
                simp only [h2, h6] at hK
                go_simp
                exact hK _ _ rfl hW (fun _ _ h => h)
              · have h2 : x 2 = _ := hdep 2 rfl
                have h5 : x 5 = _ := hdep 5 rfl
                have h7 : x 7 = _ := hdep 7 rfl
                clear hdep
                simp only [h2, h5, h7] at hK
                go_simp
                exact hK _ _ rfl hW (fun _ _ h => h)
              · have h2 : x 2 = _ := hdep 2 rfl
                have h8 : x 8 = _ := hdep 8 rfl
                clear hdep
                simp only [h2, h8] at hK
                go_simp
                exact hK _ _ rfl hW (fun _ _ h => h)
              · have h9 : x 9 = _ := hdep 9 rfl
                clear hdep
                simp only [h9] at hK
                go_simp
                exact hK _ _ rfl hW (fun _ _ h => h)
            case fin3 =>
              intro y W hW hY
              have h10 : y 10 = .bool true := hY 10 (by decide)
              have HB14 := Lib.hid (next14 HB13.out hW)
              clear hY hW
              rw [h10]
              go_wp2
              go_ret
              exact ⟨rfl, HB14.out⟩
end Go.Proofs.YtacmjmfdhegojaaDoor
