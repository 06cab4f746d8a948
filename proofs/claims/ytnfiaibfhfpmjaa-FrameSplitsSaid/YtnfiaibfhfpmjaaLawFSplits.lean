/-
  The law FrameSplits tells true of any bodies and any bytes behind them, and turns nothing that was there.
  Conditions: none.
-/
import Derived.Test.YtnfiaibfhfpmjaaLives3
import Derived.Test.YtnfiaibfhfpmjaaFrameM
import Derived.Test.YtnfiaibfhfpmjaaSplit
import Derived.Test.YtnfiaibfhfpmjaaRefFrame
import Derived.Laws.OwnMore
import Derived.BigQuiet
namespace Go.Proofs.Ytnfiaibfhfpmjaa
open Go.RowKit

theorem RdB.at2 {w w' : World} {A : Option Addr} {rs : List (List UInt8)} (h : RdB w A rs) (ht : Turns (fun _ => False) w w') (k : Nat) (hk : k < rs.length) :
    ∃ b off A' c', A = some ⟨b, off, none⟩ ∧ w'.cell? ⟨b, off + k, none⟩ = some (.slice A' rs[k].length c') ∧ Rd w (.slice A' rs[k].length c') rs[k] ∧ rs[k].length ≤ 9223372036854775807 := by
  obtain ⟨b, off, rfl, hb, hc⟩ := h (by intro e; subst e; simp at hk)
  obtain ⟨A', c', h1, h2, h3⟩ := hc k hk
  exact ⟨b, off, A', c', rfl, (ht.cell (p := ⟨b, off + k, none⟩) hb (fun f => f)).trans h1, h2, h3⟩
/-- What holds at the head of each round: a framer, and bytes of the call's own. -/
def SplInv (w : World) (B : Nat) (al : List UInt8) (v : Value) (wr : World) : Prop :=
  (∃ m, Tbl wr B m) ∧ wr.ownsRow 0 5 1 v al.length (cellsOf al) ∧ (∀ k, v.ownBlock = some k → w.heap.size ≤ k ∧ k ≠ B) ∧ Turns (fun _ => False) w wr

set_option maxRecDepth 100000 in
theorem fsplits_few (A A' : Option Addr) (c c' n n' : Nat) (w : World) (hm : n ≤ 9223372036854775807) (hm' : n' ≤ 9223372036854775807) (h : 8 < n ∨ 100 < n') :
    Calls Try.prog 5 #[.slice A n c, .slice A' n' c'] w (Told2 true w) := by
  have hnot : ∀ (x : Bool) (w : World), (Op.unary .not (.bool x)).run Try.prog w = .ok (.bool (!x)) w := fun _ _ => rfl
  by_cases h8 : 8 < n
  · clear h
    go_enter Try.func5, Try.ntmps5
    go_wp2_with fail
    with_reducible refine (lives3_calls w).mono ?_
    rintro e w1 ⟨rfl, ht1⟩
    have H1 := Lib.hid ht1
    clear ht1
    go_wp2_with fail
    with_reducible refine (lives3_calls w1).mono ?_
    rintro e w2 ⟨rfl, ht2⟩
    have H2 : Hid (Turns (fun _ => False) w w2) := H1.out.next ht2 (fun _ _ f => f)
    clear ht2
    go_wp2
    go_ret
    exact ⟨rfl, H2.out⟩
  · have h' : 100 < n' := by omega
    clear h
    go_enter Try.func5, Try.ntmps5
    go_wp2_with fail
    with_reducible refine (lives3_calls w).mono ?_
    rintro e w1 ⟨rfl, ht1⟩
    have H1 := Lib.hid ht1
    clear ht1
    go_wp2_with fail
    with_reducible refine (lives3_calls w1).mono ?_
    rintro e w2 ⟨rfl, ht2⟩
    have H2 : Hid (Turns (fun _ => False) w w2) := H1.out.next ht2 (fun _ _ f => f)
    clear ht2
    go_wp2
    go_ret
    exact ⟨rfl, H2.out⟩

set_option maxRecDepth 100000 in
set_option maxHeartbeats 4000000 in
theorem fsplits_many (A : Option Addr) (c : Nat) (rs : List (List UInt8)) (Ar : Option Addr) (cr : Nat) (rest : List UInt8) (w : World) (hr : RdB w A rs) (hq : RdC w (.slice Ar rest.length cr) rest) (hn : rs.length ≤ 8) (hrest : rest.length ≤ 100) :
    Calls Try.prog 5 #[.slice A rs.length c, .slice Ar rest.length cr] w (Told2 true w) := by
  have hnot : ∀ (x : Bool) (w : World), (Op.unary .not (.bool x)).run Try.prog w = .ok (.bool (!x)) w := fun _ _ => rfl
  obtain ⟨i0, hi, hz0, hz1, hz2⟩ := info_parts infoByte
  have HI : Hid (Try.prog.info? 5 = some i0) := hi
  have HZ0 := Lib.hid hz0
  have HZ1 := Lib.hid hz1
  have HZ2 := Lib.hid hz2
  have HR := Lib.hid hr
  have HQ := Lib.hid hq
  clear hr hq hi hz0 hz1 hz2
  obtain ⟨n, hnn⟩ : ∃ n, n = rs.length := ⟨_, rfl⟩
  rw [← hnn] at hn ⊢
  have HNN := Lib.hid hnn
  clear hnn
  obtain ⟨rn, hrn⟩ : ∃ rn, rn = rest.length := ⟨_, rfl⟩
  rw [← hrn] at hrest HQ ⊢
  have HRN := Lib.hid hrn
  clear hrn
  go_enter Try.func5, Try.ntmps5
  go_wp2_with fail
  with_reducible refine (lives3_calls w).mono ?_
  rintro e w1 ⟨rfl, ht1⟩
  have H1 := Lib.hid ht1
  clear ht1
  go_wp2_with fail
  with_reducible refine (fnew_calls w1).mono ?_
  rintro e w2 ⟨B, rfl, hB1, hT2, ht2⟩
  have hB : w.heap.size ≤ B := Nat.le_trans H1.out.size hB1
  have HINV : Hid (SplInv w B (frs 0 (rs.take 0)) (.slice none 0 0) w2) := ⟨⟨false, hT2⟩, World.ownsRow_nil _ _ _ _, fun k hk => by simp [Value.ownBlock] at hk, H1.out.next ht2 (fun _ _ f => f)⟩
  clear hT2 ht2 hB1 H1
  go_wp2
  go_loopw [6, 40] (fun v i wr => ∃ k : Nat, k ≤ n ∧ i = .int .i64 k ∧ SplInv w B (frs 0 (rs.take k)) v wr ∧ (frs 0 (rs.take k)).length ≤ 110 * k ∧ ∀ j (hj : j < rs.length), j < k → rs[j].length ≤ 100) (fun _ i _ => n - (intOf i).toNat)
  case atStart => exact ⟨0, by omega, rfl, HINV.out, by simp [frs], fun _ _ h => by omega⟩
  case round =>
    obtain ⟨k, hk, rfl, ⟨⟨m, hT⟩, hown, hob, htr⟩, hal, hsm⟩ := hrel
    clear HINV
    by_cases hlt : k < n
    · obtain ⟨b, off, A', c', rfl, hcell, hrow, hrl⟩ := HR.out.at2 htr k (by have := HNN.out; omega)
      have hft := frs_take rs k (by have := HNN.out; omega)
      have hsn : ∀ row : List UInt8, row = rs[k]'(by have := HNN.out; omega) → row.length ≤ 100 → ∀ j (hj : j < rs.length), j < k + 1 → rs[j].length ≤ 100 := by
        intro row e hl j hj hjk
        by_cases ejk : j = k
        · subst ejk; rw [← e]; exact hl
        · exact hsm j hj (by omega)
      obtain ⟨row, hrk⟩ : ∃ row, row = rs[k]'(by have := HNN.out; omega) := ⟨_, rfl⟩
      rw [← hrk] at hcell hrow hrl hft
      have HSN := Lib.hid (hsn row hrk)
      clear hsn hrk
      have HFT := Lib.hid hft
      clear hft
      by_cases hbig : 100 < row.length
      · have HF := Lib.hid htr
        clear hT hown hob htr hrow HR hal hsm HSN HFT
        generalize row.length = rl at *
        go_wp2
        go_ret
        exact ⟨rfl, HF.out⟩
      · have hrl2 : row.length ≤ 100 := by omega
        have HT := Lib.hid hT
        generalize frs 0 (rs.take k) = al at *
        have HOWN := Lib.hid hown
        have HOB := Lib.hid hob
        have HTR := Lib.hid htr
        have HROW := Lib.hid (hrow.still htr)
        have HSM := Lib.hid (HSN.out hrl2)
        clear hT hown hob htr hrow hrl hbig hsm HSN
        have hk8 : IntKind.u8.wrap (k : Int) = (k : Int) := by rw [IntKind.wrap_u8']; omega
        have hfl := frameB_length k row
        have hpr : row.length ≤ 65526 := by omega
        have HPR := Lib.hid hpr
        clear hpr
        go_wp2_with fail
        with_reducible refine (fput_at B m _ k _ row wr HT.out HROW.out (by go_num) (by omega) HPR.out).mono ?_
        rintro e w3 ⟨v3, rfl, ho3, hb3, hm3⟩
        generalize frameB k row = fr at *
        have hfb : fr.length ≤ 110 := by omega
        have HFL := Lib.hid hfl
        have t3 : Turns (fun _ => False) w w3 := HTR.out.next hm3.2 (fun i hi h => by omega)
        have hO3 := hm3.2.owns HOWN.out (fun k hk e => (HOB.out k hk).2 e)
        have HOWN3 := Lib.hid hO3
        have HT3 := Lib.hid hm3.tbl
        have HTR3 := Lib.hid t3
        have HV3 := Lib.hid (Rd.of_own ho3)
        have hBl := HT.out.lt
        have hsz3 : B < w3.heap.size := hm3.tbl.lt
        obtain ⟨A3, c3, rfl⟩ := owns_shape ho3
        clear ho3 hb3 hm3 t3 hO3 HOWN HT HTR HROW hfl hBl HPR hk8
        go_wp2_with (at_builtin; refine wpList_append_src _ rfl (.tmp 58) (.tmp 59) 22 22 (by rfl) 5 i0 _ 1 1 Try.underlying22 HI.out HZ0.out HZ1.out HZ2.out rfl _ al.length (cellsOf al) (by rfl) HOWN3.out (.slice A3 fr.length c3) fr.length (cellsOf fr) (by rfl) (HV3.out.src Try.underlying22) (by simp only [maxLen]; omega) (by omega) ?_; intro A4 c4 w4 ho4 hg4 ha4)
        have hinv : SplInv w B (al ++ fr) (.slice A4 (al.length + fr.length) c4) w4 := by
          refine ⟨⟨true, HT3.out.turns ((Turns.refl (fun i => u6.ownBlock = some i) w3).grown hg4 (fun k hk _ => hk)) (fun hS => (HOB.out B hS).2 rfl)⟩, ?_, ?_, HTR3.out.grown hg4 (fun k hk hlt => by have := (HOB.out k hk).1; omega)⟩
          · rw [List.length_append, cellsOf_append]; exact ho4
          · intro k hk
            have := HTR3.out.size
            rcases ha4 with h | h
            · rw [h] at hk; exact HOB.out k hk
            · rw [h] at hk; injection hk with hk; omega
        rw [← HFT.out] at hinv
        have hal2 : (frs 0 (rs.take (k + 1))).length ≤ 110 * (k + 1) := by rw [HFT.out, List.length_append]; omega
        have HINV2 := Lib.hid hinv
        have HAL2 := Lib.hid hal2
        clear ho4 hg4 ha4 hinv hal2 HOWN3 HT3 HTR3 HV3 HOB HFT HFL
        go_wp2
        go_roundw
        case rel => exact ⟨k + 1, by omega, by go_num, HINV2.out, HAL2.out, HSM.out⟩
        case measure => simp [intOf]; omega
    · obtain rfl : k = n := by omega
      have htk : rs.take k = rs := List.take_of_length_le (by have := HNN.out; omega)
      rw [htk] at hown hal
      clear htk
      have hq := HQ.out.still htr
      have HQ1 := Lib.hid hq.1
      have hst0 : frs 0 rs ++ rest = frs 0 (rs.drop 0) ++ rest := rfl
      have HST0 := Lib.hid hst0
      clear hst0
      generalize frs 0 rs = al at *
      have HOWN := Lib.hid hown
      have HOB := Lib.hid hob
      have HTR := Lib.hid htr
      have HT := Lib.hid hT
      have HSM := Lib.hid hsm
      have hBl := hT.lt
      clear hT hown hob htr hsm hq hlt
      go_wp2_with (at_builtin; refine wpList_append_src _ rfl (.tmp 62) (.tmp 63) 22 22 (by rfl) 5 i0 _ 1 1 Try.underlying22 HI.out HZ0.out HZ1.out HZ2.out rfl _ al.length (cellsOf al) (by rfl) HOWN.out (.slice Ar rn cr) rn (cellsOf rest) (by rfl) (by rw [HRN.out] at HQ1 ⊢; exact HQ1.out.src Try.underlying22) (by simp only [maxLen]; omega) (by omega) ?_; intro A4 c4 w4 ho4 hg4 ha4)
      have hinv : SplInv w B (al ++ rest) (.slice A4 (al.length + rn) c4) w4 := by
        refine ⟨⟨m, HT.out.turns ((Turns.refl (fun i => u6.ownBlock = some i) wr).grown hg4 (fun k hk _ => hk)) (fun hS => (HOB.out B hS).2 rfl)⟩, ?_, ?_, HTR.out.grown hg4 (fun k hk hlt => by have := (HOB.out k hk).1; omega)⟩
        · rw [List.length_append, cellsOf_append, ← HRN.out]; exact ho4
        · intro k hk
          have := HTR.out.size
          rcases ha4 with h | h
          · rw [h] at hk; exact HOB.out k hk
          · rw [h] at hk; injection hk with hk; omega
      have hlen : (al ++ rest).length ≤ 1000 := by rw [List.length_append, ← HRN.out]; omega
      rw [HST0.out] at hinv hlen
      have HINV2 := Lib.hid hinv
      have HLEN := Lib.hid hlen
      clear ho4 hg4 ha4 hinv hlen HOWN HT HTR HQ1 HOB HST0 HI HZ0 HZ1 HZ2 hal hBl
      go_wp2
      go_loopw [6, 67] (fun v i wr => ∃ j : Nat, j ≤ k ∧ i = .int .i64 j ∧ SplInv w B (frs j (rs.drop j) ++ rest) v wr ∧ (frs j (rs.drop j) ++ rest).length ≤ 1000) (fun _ i _ => k - (intOf i).toNat)
      case atStart => exact ⟨0, by omega, rfl, HINV2.out, HLEN.out⟩
      case round =>
        obtain ⟨j, hj, rfl, ⟨⟨m2, hT⟩, hown, hob, htr⟩, hal⟩ := hrel
        clear HINV2 HLEN
        by_cases hlt : j < k
        · have hjn : j < rs.length := by have := HNN.out; omega
          obtain ⟨b, off, A', c', rfl, hcell, hrow, hrl⟩ := HR.out.at2 htr j hjn
          have hfd := frs_drop rs j hjn
          have hr100 := HSM.out j hjn hlt
          generalize rs[j] = row at *
          rw [hfd, List.append_assoc] at hown hal
          clear hfd
          generalize hnx : frs (j + 1) (rs.drop (j + 1)) ++ rest = nx at *
          have HNX := Lib.hid hnx
          clear hnx
          have hsp := split_frame j row nx (by omega)
          obtain ⟨hg0, hg1, hg2⟩ := frame_got j row (by omega) (by omega)
          have hfl := frameB_length j row
          generalize frameB j row = fr at *
          obtain ⟨al, hal'⟩ : ∃ al, al = fr ++ nx := ⟨_, rfl⟩
          have hsE : saidE al = 0 := by rw [hal']; exact congrArg Prod.fst hsp
          have hsN : saidN al = fr.length := by rw [hal']; exact congrArg Prod.snd hsp
          have htk : al.take (saidN al) = fr := by rw [hsN, hal', List.take_left' rfl]
          have hdp : al.drop (saidN al) = nx := by rw [hsN, hal', List.drop_left' rfl]
          have hll : al.length = fr.length + nx.length := by rw [hal', List.length_append]
          have hse : splitE al = 0 := by
            unfold splitE
            rw [hsE, if_neg (by simp), if_neg (by rw [hsN]; omega), if_neg (by rw [hsN]; omega)]
          rw [← hal'] at hown hal
          have hli : (fr.length : Int) + (nx.length : Int) = (al.length : Int) := by omega
          have HTK := Lib.hid htk
          have HDP := Lib.hid hdp
          have HSE := Lib.hid hse
          have HG0 := Lib.hid hg0
          have HG1 := Lib.hid hg1
          have HG2 := Lib.hid hg2
          have HALB : Hid (al.length ≤ 1099511627776) := by show al.length ≤ _; omega
          have HFRB : Hid (fr.length ≤ 9223372036854775807) := by show fr.length ≤ _; omega
          have HNXB : Hid (nx.length ≤ 1000) := by show nx.length ≤ _; omega
          have hnb : (nx.length : Int) ≤ 1000 := by omega
          have hfb : (fr.length : Int) ≤ 1000 := by omega
          have HT := Lib.hid hT
          have HTR := Lib.hid htr
          have HROW := Lib.hid hrow
          have HRC := Lib.hid (RdC.of_own hown)
          obtain ⟨A6, c6, rfl⟩ := owns_shape hown
          clear hT hown hob htr hrow hrl hsE hsN htk hdp hll hse hg0 hg1 hg2 hsp hal' hfl hr100
          have hk8 : IntKind.u8.wrap (j : Int) = (j : Int) := by rw [IntKind.wrap_u8']; omega
          go_wp2_with fail
          with_reducible refine (fsplit_ok B _ al wr HRC.out HALB.out HSE.out).mono ?_
          rw [HTK.out, HDP.out]
          rintro e w3 ⟨v1, v2, rfl, ho1, ho2, hb1, hb2, ht3⟩
          have HT3 := Lib.hid (HT.out.turns ht3 (fun f => f))
          have HTR3 : Hid (Turns (fun _ => False) w w3) := HTR.out.next ht3 (fun _ _ f => f)
          have HR1 := Lib.hid (RdC.of_own ho1)
          have HO2 := Lib.hid ho2
          have hBl := HT.out.lt
          have hb2' : ∀ k, v2.ownBlock = some k → w.heap.size ≤ k ∧ k ≠ B := fun k hk => by
            have := hb2 k hk
            have := HTR.out.size
            omega
          have HB2 := Lib.hid hb2'
          obtain ⟨A1, c1, rfl⟩ := owns_shape ho1
          obtain ⟨A2, c2, rfl⟩ := owns_shape ho2
          clear ho1 ho2 hb1 hb2 hb2' ht3 HT HTR HRC HTK HDP HSE HALB hBl
          go_wp2_with fail
          with_reducible refine (fget_calls B m2 _ fr w3 HT3.out HR1.out HFRB.out).mono ?_
          rintro e w4 ⟨v4, rfl, hv4, hm4, ht4⟩
          rw [HG0.out, if_pos rfl, HG1.out] at hv4
          rw [HG0.out, if_pos rfl, HG2.out]
          have t4 : Turns (fun _ => False) w w4 := HTR3.out.next ht4 (fun i hi h => by omega)
          have hst1 := hv4.string (P := Try.prog) (src := 22) (dst := 9) Try.underlying22 Try.underlying5 Try.underlying9
          have hst2 := (HROW.out.still t4).string (P := Try.prog) (src := 22) (dst := 9) Try.underlying22 Try.underlying5 Try.underlying9
          have HINV3 : Hid (SplInv w B nx (.slice A2 nx.length c2) w4) := ⟨hm4, ht4.owns HO2.out (fun k hk e => (HB2.out k hk).2 e), HB2.out, t4⟩
          obtain ⟨A4, c4, rfl⟩ := hv4.shape
          rw [← HNX.out] at HINV3 HNXB
          have hnxl : (frs (j + 1) (rs.drop (j + 1)) ++ rest).length = nx.length := by rw [HNX.out]
          have HNXL := Lib.hid hnxl
          clear hv4 hm4 ht4 t4 HT3 HTR3 HR1 HO2 HB2 HG0 HG1 HG2 HROW HFRB hnxl
          go_wp2
          go_roundw
          case rel => exact ⟨j + 1, by omega, by go_num, by rw [HNXL.out] at HINV3; exact HINV3.out, HNXB.out⟩
          case measure => simp [intOf]; omega
        · obtain rfl : j = k := by omega
          have HTR := Lib.hid htr
          have HT := Lib.hid hT
          have HRC := Lib.hid (HQ.out.still htr)
          have hrn := HRN.out
          have hrz : (ByteArray.mk rest.toArray).size = rest.length := by simp [ByteArray.size]
          have HSZ := Lib.hid (fun W => refsize_calls ⟨rest.toArray⟩ W (by rw [hrz]; omega))
          rw [show (ByteArray.mk rest.toArray).data.toList = rest from by simp] at HSZ
          clear hT hown hob htr hal hlt HR HSM hrz
          have hNl := saidN_lt rest
          have hrm : rest.length ≤ 9223372036854775807 := by omega
          have hrm2 : rest.length ≤ 1099511627776 := by omega
          have HRM := Lib.hid hrm
          have HRM2 := Lib.hid hrm2
          clear hrm hrm2
          by_cases hsp : splitE rest ≠ 0
          · have hS : splitE rest = if saidE rest ≠ 0 then saidE rest else if 65536 < saidN rest then 3 else if rn < saidN rest then 2 else 0 := by rw [hrn]; rfl
            have HSP := Lib.hid hsp
            have HS := Lib.hid hS
            clear hrn hS hsp
            go_wp2_with fail
            rw [HRN.out]
            with_reducible refine (fsplit_bad B _ rest wr (by rw [← HRN.out]; exact HRC.out) HRM.out HSP.out).mono ?_
            rw [← HRN.out]
            rintro e w3 ⟨rfl, ht3⟩
            have HTR3 : Hid (Turns (fun _ => False) w w3) := HTR.out.next ht3 (fun _ _ f => f)
            have hst : (convert 22 9 (.slice Ar rn cr)).run Try.prog w3 = .ok (.string ⟨rest.toArray⟩) w3 := (HRC.out.still ht3).1.string (P := Try.prog) (src := 22) (dst := 9) Try.underlying22 Try.underlying5 Try.underlying9
            clear ht3 HTR HT HRC
            go_wp2_with fail
            with_reducible refine (HSZ.out w3).mono ?_
            rintro e w4 ⟨rfl, rfl⟩
            clear HSZ hst
            generalize saidN rest = N at *
            generalize saidE rest = E at *
            generalize splitE rest = F at *
            have hS := HS.out
            clear HS
            by_cases h1 : E ≠ 0
            · rw [if_pos h1] at hS
              have e1 : (E != 0) = true := by simpa using h1
              have e2 : (E == 0) = false := by simpa using h1
              have HSF := Lib.hid hS
              rw [HSF.out]
              clear hS h1 HSP
              go_wp2
              go_ret
              exact ⟨rfl, HTR3.out⟩
            · rw [if_neg h1] at hS
              obtain rfl : E = 0 := by omega
              clear h1
              by_cases h2 : 65536 < N
              · rw [if_pos h2] at hS
                subst hS
                clear HSP
                go_wp2
                go_ret
                exact ⟨rfl, HTR3.out⟩
              · rw [if_neg h2] at hS
                by_cases h3 : rn < N
                · rw [if_pos h3] at hS
                  subst hS
                  clear HSP
                  have hw : IntKind.u64.wrap (rn : Int) = (rn : Int) := by rw [IntKind.wrap_u64]; omega
                  go_wp2
                  go_ret
                  exact ⟨rfl, HTR3.out⟩
                · rw [if_neg h3] at hS
                  exact absurd hS HSP.out
          · have hs0 : splitE rest = 0 := by omega
            obtain ⟨hE, hN1, hN2, hN3⟩ := split_zero hs0
            have HS0 := Lib.hid hs0
            rw [hE] at HSZ
            have hne : rest ≠ [] := by intro e; subst e; simp at hN2; omega
            rw [hrn] at HRC
            obtain ⟨g, off, c9, he9, hc1, hc2, hg, hcell⟩ := HRC.out.form hne
            injection he9 with hA9 _ hc9
            subst hA9 hc9
            have hr1 : Rd wr (.slice (some ⟨g, off, none⟩) (saidN rest) cr) (rest.take (saidN rest)) := by
              have := rd_sub (k := 0) (n := saidN rest) (c := cr) hg hcell (by omega)
              simpa using this
            have hr2 : Rd wr (.slice (some ⟨g, off + saidN rest, none⟩) (rest.length - saidN rest) (cr - saidN rest)) (rest.drop (saidN rest)) := by
              have := rd_sub (k := saidN rest) (n := rest.length - saidN rest) (c := cr - saidN rest) hg hcell (by omega)
              rwa [List.take_of_length_le (by rw [List.length_drop]; omega)] at this
            have hr3 : cr = saidN rest → Rd wr (.slice (some ⟨g, off, none⟩) 0 0) (rest.drop (saidN rest)) := by
              intro e
              have hd : rest.drop (saidN rest) = [] := List.drop_of_length_le (by omega)
              rw [hd]
              exact ⟨_, _, rfl, fun f => absurd rfl f⟩
            have HSPL := Lib.hid (fsplit_ok B _ rest wr HRC.out HRM2.out hs0)
            have hstw : ∀ W, Turns (fun _ => False) wr W → (convert 22 9 (.slice (some ⟨g, off, none⟩) rest.length cr)).run Try.prog W = .ok (.string ⟨rest.toArray⟩) W := fun W ht => (HRC.out.still ht).1.string (P := Try.prog) (src := 22) (dst := 9) Try.underlying22 Try.underlying5 Try.underlying9
            have HSTW := Lib.hid hstw
            have HR1 := Lib.hid hr1
            have HR2 := Lib.hid hr2
            have HR3 := Lib.hid hr3
            rw [hrn] at hrest ⊢
            clear hsp hs0 hE HRC hr1 hr2 hr3 hcell hne HQ hstw HRM HRM2 HS0 hrn HRN HT
            generalize rest.take (saidN rest) = p1 at *
            generalize rest.drop (saidN rest) = p2 at *
            generalize saidN rest = N at *
            generalize rest.length = q at *
            have hw : IntKind.u64.wrap (q : Int) = (q : Int) := by rw [IntKind.wrap_u64]; omega
            go_wp2_with fail
            with_reducible refine HSPL.out.mono ?_
            rintro e w3 ⟨v1, v2, rfl, ho1, ho2, hb1, hb2, ht3⟩
            have hst := HSTW.out w3 ht3
            have HTR3 : Hid (Turns (fun _ => False) w w3) := HTR.out.next ht3 (fun _ _ f => f)
            have HT3 := Lib.hid ht3
            have HV1 := Lib.hid (Rd.of_own ho1)
            have HV2 := Lib.hid (Rd.of_own ho2)
            obtain ⟨A1, c1, rfl⟩ := owns_shape ho1
            obtain ⟨A2, c2, rfl⟩ := owns_shape ho2
            clear ho1 ho2 hb1 hb2 ht3 HTR HSPL HSTW
            go_wp2_with fail
            with_reducible refine (HSZ.out w3).mono ?_
            rintro e w4 ⟨rfl, rfl⟩
            clear HSZ hst
            have hs1 : ∀ i, (convert 22 9 (.slice A1 p1.length c1)).run Try.prog (w3.drewN i) = .ok (.string ⟨p1.toArray⟩) (w3.drewN i) := fun i => (HV1.out.still ((Turns.refl _ _).drewN i)).string (P := Try.prog) (src := 22) (dst := 9) Try.underlying22 Try.underlying5 Try.underlying9
            have hs2 : ∀ i, (convert 22 9 (.slice A2 p2.length c2)).run Try.prog (w3.drewN i) = .ok (.string ⟨p2.toArray⟩) (w3.drewN i) := fun i => (HV2.out.still ((Turns.refl _ _).drewN i)).string (P := Try.prog) (src := 22) (dst := 9) Try.underlying22 Try.underlying5 Try.underlying9
            have hs3 : ∀ i, (convert 22 9 (.slice (some ⟨g, off, none⟩) N cr)).run Try.prog (w3.drewN i) = .ok (.string ⟨p1.toArray⟩) (w3.drewN i) := fun i => ((HR1.out.still HT3.out).still ((Turns.refl _ _).drewN i)).string (P := Try.prog) (src := 22) (dst := 9) Try.underlying22 Try.underlying5 Try.underlying9
            by_cases hcn : cr = N
            · have hs4 : ∀ i, (convert 22 9 (.slice (some ⟨g, off, none⟩) 0 0)).run Try.prog (w3.drewN i) = .ok (.string ⟨p2.toArray⟩) (w3.drewN i) := fun i => (((HR3.out hcn).still HT3.out).still ((Turns.refl _ _).drewN i)).string (P := Try.prog) (src := 22) (dst := 9) Try.underlying22 Try.underlying5 Try.underlying9
              subst hcn
              have hqn : q = cr := by omega
              clear HV1 HV2 HR1 HR2 HR3 HT3
              subst hqn
              go_wp2
              go_quiet (fail)
              go_wp2
              go_ret
              exact ⟨rfl, HTR3.out.drewN _⟩
            · have hs4 : ∀ i, (convert 22 9 (.slice (some ⟨g, off + N, none⟩) (q - N) (cr - N))).run Try.prog (w3.drewN i) = .ok (.string ⟨p2.toArray⟩) (w3.drewN i) := fun i => ((HR2.out.still HT3.out).still ((Turns.refl _ _).drewN i)).string (P := Try.prog) (src := 22) (dst := 9) Try.underlying22 Try.underlying5 Try.underlying9
              clear HV1 HV2 HR1 HR2 HR3 HT3
              go_wp2
              go_quiet (fail)
              go_wp2
              go_ret
              exact ⟨rfl, HTR3.out.drewN _⟩

theorem fsplits_walk (A : Option Addr) (c : Nat) (rs : List (List UInt8)) (Ar : Option Addr) (cr : Nat) (rest : List UInt8) (w : World) (hr : RdB w A rs) (hq : RdC w (.slice Ar rest.length cr) rest) (hm : rs.length ≤ 9223372036854775807) (hm' : rest.length ≤ 9223372036854775807) :
    Calls Try.prog 5 #[.slice A rs.length c, .slice Ar rest.length cr] w (Told2 true w) := by
  by_cases h : 8 < rs.length ∨ 100 < rest.length
  · exact fsplits_few A Ar c cr _ _ w hm hm' h
  · exact fsplits_many A c rs Ar cr rest w hr hq (by omega) (by omega)
end Go.Proofs.Ytnfiaibfhfpmjaa
