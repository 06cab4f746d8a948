/-
  Read of an operation: of any bytes the operation, or what is wrong first.
  Conditions: the table reads as it is laid.
-/
import Derived.Test.YtacmjmfdhegojaaDoorOpPart
namespace Go.Proofs.YtacmjmfdhegojaaDoor
open Go.RowKit

theorem results_two14 {P : Program} {fn : Func} {p u : Tmp} {ty : TypeId} (h : fn.results = #[.cell p ty, .tmp u]) (tmps : Array Value) (w : World) (g : Nat) (t : TypeId) (cs : Array Value) (fr : Nat × Nat) (d : TypeDesc)
    (hp : tmps.getD p undef = .pointer (some ⟨g, 0, none⟩)) (hg : w.heap[g]? = some (.cells cs t fr))
    (hu : P.underlying ty = some d) (hd : (match d with | .struct _ | .array _ _ => true | _ => false) = true) (hi : (P.info? ty).map (·.size) = some cs.size) :
    (results fn tmps).run P w = .ok (.tuple #[.agg cs, tmps.getD u undef]) w := by
  have hp' : tmps[p]?.getD undef = .pointer (some ⟨g, 0, none⟩) := by simpa using hp
  rw [results_cell_tmp h]
  simp [hp', asAddr, run_loadVar_row w g t ty cs fr d hg hu hd hi, Result.andThen]

/-- Part by part. -/
def fold14 (l : List UInt8) (p : St × O14) : St × O14 := l.foldl (fun p c => (stp14 p.1 c, opp14 p.1 p.2 c)) p
theorem fold14_left : ∀ (l : List UInt8) (p : St × O14), (fold14 l p).1.bs.length ≤ p.1.bs.length
  | [], _ => Nat.le_refl _
  | c :: l, p => Nat.le_trans (fold14_left l _) (stp14_left p.1 c)
/-- Behind the kind. -/
def hd14 (bs : List UInt8) : St := if know14 (numS ⟨bs, 0⟩ 1).2 = true then (numS ⟨bs, 0⟩ 1).1 else failS (numS ⟨bs, 0⟩ 1).1 4
def rdo14 (bs : List UInt8) : St × O14 := fold14 (sig14 (numS ⟨bs, 0⟩ 1).2) (hd14 bs, zero14 (UInt8.ofNat (numS ⟨bs, 0⟩ 1).2))
/-- The error, and the operation. -/
def rde14 (bs : List UInt8) : Int := if 64 < bs.length then 3 else endS (rdo14 bs).1
def rdv14 (bs : List UInt8) : O14 := if rde14 bs = 0 then (rdo14 bs).2 else zero14 0
theorem hd14_left (bs : List UInt8) : (hd14 bs).bs.length ≤ bs.length := by
  have h2 := numS_left ⟨bs, 0⟩ 1
  have h3 := failS_length (numS ⟨bs, 0⟩ 1).1 4
  unfold hd14
  split
  · exact h2
  · exact Nat.le_trans h3 h2

/-- A Reader and an operation under way, beside what Read will tell. -/
structure Rd14 (w : World) (B Q : Nat) (st : St) (o : O14) (W : World) : Prop where
  r : Rdr W B st
  o : OpAt W Q o
  z : OpAt W w.heap.size (zero14 0)
  b : Below w.heap.size w W
theorem Rd14.part {w W W' : World} {B Q : Nat} {st st' : St} {o o' : O14} (h : Rd14 w B Q st o W) (hB : w.heap.size < B) (hQ : w.heap.size < Q) (hr : Rdr W' B st') (ho : OpAt W' Q o') (ht : Turns (fun i => i = B ∨ i = Q) W W') : Rd14 w B Q st' o' W' :=
  ⟨hr, ho, h.z.turns ht (by rintro (e | e) <;> omega), h.b.trans (ht.below_at h.b.size (by rintro i (e | e) <;> omega))⟩
theorem Rd14.below {w W W' : World} {B Q : Nat} {st : St} {o : O14} (h : Rd14 w B Q st o W) (hb : Below W.heap.size W W') : Rd14 w B Q st o W' :=
  ⟨h.r.still (turns14 hb), h.o.below hb, h.z.below hb, next14 h.b hb⟩
theorem Rd14.did {w W W' : World} {B Q : Nat} {st st' : St} {o : O14} (h : Rd14 w B Q st o W) (hB : w.heap.size < B) (hne : B ≠ Q) (hd : Did W B st' W') : Rd14 w B Q st' o W' :=
  ⟨hd.1, h.o.turns hd.2 (fun e => hne e.symm), h.z.turns hd.2 (by omega), h.b.trans (hd.2.below_at h.b.size (by rintro i e; omega))⟩
theorem Rd14.iter {w W : World} {B Q it : Nat} {st : St} {o : O14} {s : ByteArray} {p : Nat} (h : Rd14 w B Q st o W) (hi : W.heap[it]? = some (Obj.stringIter s p)) (hw : w.heap.size < it) (q : Nat) : Rd14 w B Q st o (W.iterAt it s q) :=
  ⟨h.r.iter14 hi q, h.o.iter (fun e => h.o.no_iter hi e.symm) s q, h.z.iter (by omega) s q, Lib.below_iterAt h.b (by omega) s q⟩

set_option maxRecDepth 100000 in
set_option maxHeartbeats 2000000 in
theorem read14_calls (v : Value) (bs : List UInt8) (w : World) (h : Laid14 w) (hv : Rd w v bs) (hm : bs.length ≤ 9223372036854775807) :
    Calls Tryd.prog 11 #[v] w (Says14 (.tuple #[(rdv14 bs).v, .int .i64 (rde14 bs)]) w) := by
  obtain ⟨A, c, rfl⟩ := hv.shape
  have hz0 : OpAt (w.alloc (.cells #[.int .u8 0, .string ⟨#[]⟩, .string ⟨#[]⟩, .int .u8 0, .int .u8 0] 24)) w.heap.size (zero14 0) := heap_alloc_new w _
  have hb0 := alloc14 (Below.refl _ w) (.cells #[.int .u8 0, .string ⟨#[]⟩, .string ⟨#[]⟩, .int .u8 0, .int .u8 0] 24)
  by_cases hlen : 64 < bs.length
  · have e1 : rde14 bs = 3 := if_pos hlen
    have e2 : rdv14 bs = zero14 0 := by unfold rdv14; rw [e1, if_neg (by decide)]
    rw [e1, e2]
    have HZ := Lib.hid hz0
    have HB := Lib.hid hb0
    have dl : decide ((bs.length : Int) > 64) = true := by simp; omega
    clear e1 e2 h hv hz0 hb0 hlen
    generalize bs.length = n at *
    go_enter Tryd.func11, Tryd.ntmps11
    go_wp2
    exact bodyPost_ret (results_two14 Tryd.results11 _ _ w.heap.size _ _ (0, 0) _ rfl HZ.out Tryd.underlying24 rfl sizeOp14) rfl ⟨rfl, HB.out⟩
  · have dl : decide ((bs.length : Int) > 64) = false := by simp; omega
    have HOF : Hid (Calls Tryd.prog 26 #[.slice A bs.length c] (w.alloc (.cells #[.int .u8 0, .string ⟨#[]⟩, .string ⟨#[]⟩, .int .u8 0, .int .u8 0] 24)) (Made (w.alloc (.cells #[.int .u8 0, .string ⟨#[]⟩, .string ⟨#[]⟩, .int .u8 0, .int .u8 0] 24)) bs)) :=
      of_calls _ bs _ (hv.still (turns14 hb0)) (by omega)
    have hsz : (w.alloc (.cells #[.int .u8 0, .string ⟨#[]⟩, .string ⟨#[]⟩, .int .u8 0, .int .u8 0] 24)).heap.size = w.heap.size + 1 := by simp
    have HSZ := Lib.hid hsz
    have HZ := Lib.hid hz0
    have HB0 := Lib.hid hb0
    have HL := Lib.hid h
    have hbl : bs.length ≤ 64 := by omega
    have HBL := Lib.hid hbl
    -- what is told at the end
    obtain ⟨k, hk⟩ : ∃ k, k = (numS ⟨bs, 0⟩ 1).2 := ⟨_, rfl⟩
    have hk256 : k < 256 := by rw [hk]; exact numS_lt _ 1
    obtain ⟨l, hl⟩ : ∃ l, l = sig14 k := ⟨_, rfl⟩
    have hsg := sig14_signs k
    rw [← hl] at hsg
    have HS := Lib.hid hsg
    have HF := fun W (hw : Laid14 W) => of14_calls k W hw
    unfold trt14 at HF
    rw [← hl] at HF
    have HKU : Hid ((UInt8.ofNat k).toNat = k) := by show _ = _; rw [hk]; exact num_u814 _
    have HR : Hid (rdo14 bs = fold14 l (hd14 bs, zero14 (UInt8.ofNat k))) := by rw [hl, hk]; rfl
    have HE : Hid (rde14 bs = endS (rdo14 bs).1) := if_neg hlen
    have HV : Hid (rdv14 bs = if rde14 bs = 0 then (rdo14 bs).2 else zero14 0) := rfl
    have HBY : Hid (∀ B W, Rdr W B ⟨bs, 0⟩ → Calls Tryd.prog 27 #[.pointer (some ⟨B, 0, none⟩)] W (Numb .u8 W B (numS ⟨bs, 0⟩ 1).1 k)) := by
      rw [hk]; exact fun B W h => rbyte_calls B ⟨bs, 0⟩ W h (by show bs.length ≤ _; omega)
    have HHD : Hid (hd14 bs = if know14 k = true then (numS ⟨bs, 0⟩ 1).1 else failS (numS ⟨bs, 0⟩ 1).1 4) := by rw [hk]; rfl
    have HHL := Lib.hid (hd14_left bs)
    have HKN := Lib.hid (fun W => known14_calls k W)
    have HFL := Lib.hid (fun B st W (h : Rdr W B st) => fail_calls B st 4 W h)
    clear h hv hz0 hb0 hlen hk hsg hl hsz hbl
    generalize tx14 (nam14 k) = s0 at *
    generalize frm14 k = f at *
    have hf := fun W => fieldS14 s0 (tx14 l) f W
    have hw64 : wrap64 (k : Int) = k := IntWalk.wrap64_in _ (by omega)
    have HFF := Lib.hid HF
    clear HF
    generalize (numS ⟨bs, 0⟩ 1).1 = s1 at *
    generalize rde14 bs = re at *
    generalize rdv14 bs = rv at *
    unfold O14.v O14.cells
    obtain ⟨n, hn⟩ : ∃ n, n = l.length := ⟨_, rfl⟩
    have HN := Lib.hid hn
    clear hn
    generalize bs.length = bl at *
    go_enter Tryd.func11, Tryd.ntmps11
    go_wp2_with fail
    with_reducible refine HOF.out.mono ?_
    rintro e w1 ⟨B, hB, rfl, hr, ht⟩
    have hBn : w.heap.size < B := by rw [HSZ.out] at hB; omega
    have HR1 := Lib.hid hr
    have HZ1 := Lib.hid (HZ.out.turns ht (fun f => f))
    have HB1 := Lib.hid (next14 HB0.out (still14 ht))
    clear hB hr ht HOF HZ HB0 HSZ
    go_wp2_with fail
    with_reducible refine (HBY.out B w1 HR1.out).mono ?_
    rintro e w2 ⟨rfl, hd⟩
    have HD2 := Lib.hid hd.1
    have HZ2 := Lib.hid (HZ1.out.turns hd.2 (by omega))
    have HB2 := Lib.hid (HB1.out.trans (hd.2.below_at HB1.out.size (by rintro i e; omega)))
    have hQn : w.heap.size < w2.heap.size := HZ2.out.lt
    have hBQ : B < w2.heap.size := HD2.out.lt
    clear hd HBY HR1 HZ1 HB1
    have ho2 : OpAt (w2.alloc (.cells #[.int .u8 (k : Int), .string ⟨#[]⟩, .string ⟨#[]⟩, .int .u8 0, .int .u8 0] 24)) w2.heap.size (zero14 (UInt8.ofNat k)) := by
      have := heap_alloc_new w2 (.cells #[.int .u8 ((UInt8.ofNat k).toNat : Int), .string ⟨#[]⟩, .string ⟨#[]⟩, .int .u8 0, .int .u8 0] 24)
      rw [HKU.out] at this
      unfold OpAt zero14
      simp only [HKU.out]
      exact this
    have hz := alloc14 (Below.refl _ w2) (.cells #[.int .u8 (k : Int), .string ⟨#[]⟩, .string ⟨#[]⟩, .int .u8 0, .int .u8 0] 24)
    have HA : Hid (Rd14 w B w2.heap.size s1 (zero14 (UInt8.ofNat k)) (w2.alloc (.cells #[.int .u8 (k : Int), .string ⟨#[]⟩, .string ⟨#[]⟩, .int .u8 0, .int .u8 0] 24))) := ⟨HD2.out.still (turns14 hz), ho2, HZ2.out.below hz, next14 HB2.out hz⟩
    clear ho2 hz HZ2 HB2 HD2
    obtain ⟨kn, hkn⟩ : ∃ kn, kn = know14 k := ⟨_, rfl⟩
    rw [← hkn] at HKN HHD
    have HS1 : Hid (hd14 bs = if kn = true then s1 else failS s1 4) := HHD.out
    clear hkn HHD
    cases kn
    case' false =>
      have hh : hd14 bs = failS s1 4 := HS1.out
      go_wp2_with (go_at_call 28; (with_reducible refine (HKN.out _).mono ?_); rintro e w3 ⟨rfl, rfl⟩)
      with_reducible refine (HFL.out B s1 _ HA.out.r).mono ?_
      rintro e W3 ⟨rfl, hd⟩
      have HA3 : Hid (Rd14 w B w2.heap.size (hd14 bs) (zero14 (UInt8.ofNat k)) W3) := by rw [hh]; exact HA.out.did hBn (by omega) hd
      clear hd HA HFL HKN HS1 hh
      generalize w2.heap.size = Q at *
    case' true =>
      have hh : hd14 bs = s1 := HS1.out
      go_wp2_with (go_at_call 28; (with_reducible refine (HKN.out _).mono ?_); rintro e w3 ⟨rfl, rfl⟩)
      have HA3 := HA
      rw [← hh] at HA3
      clear HA HFL HKN HS1 hh
      generalize w2.alloc (.cells #[.int .u8 (k : Int), .string ⟨#[]⟩, .string ⟨#[]⟩, .int .u8 0, .int .u8 0] 24) = W3 at *
      generalize w2.heap.size = Q at *
    all_goals
      have HL3 := Lib.hid (HL.out.later HA3.out.b)
      have zq : W3.cell? ⟨Q, 0, none⟩ = some (.int .u8 k) := by
        have := HA3.out.o.c0
        rw [show (zero14 (UInt8.ofNat k)).kd.toNat = k from HKU.out] at this
        exact this
      try go_wp2_with fail
      with_reducible refine (HFF.out _ HL3.out).mono ?_
      rintro e w4 ⟨rfl, hb⟩
      have HA4 := Lib.hid (HA3.out.below hb)
      have hit4 : w.heap.size < w4.heap.size := HA4.out.z.lt
      clear hb HA3 HL3 zq
      go_wp2
      go_loopg [7] n (fun gg _ wr => ∃ j : Nat, j ≤ n ∧ n - j ≤ gg ∧ Hid (wr.heap[w4.heap.size]? = some (Obj.stringIter (tx14 l) j)) ∧ Hid (Rd14 w B Q (fold14 (l.take j) (hd14 bs, zero14 (UInt8.ofNat k))).1 (fold14 (l.take j) (hd14 bs, zero14 (UInt8.ofNat k))).2 wr))
      case atStart =>
        have hi := World.iter_heap w4 (tx14 l) 0
        have hz := alloc14 (Below.refl _ w4) (Obj.stringIter (tx14 l) 0)
        exact ⟨0, Nat.zero_le _, by omega, hi, HA4.out.below hz⟩
      case round =>
        obtain ⟨j, hj, hg, HI, HW⟩ := hrel
        by_cases hlt : j < n
        · have hjl : j < l.length := HN.out ▸ hlt
          have hc := HS.out l[j] (List.getElem_mem hjl)
          have hst : fold14 (l.take (j + 1)) (hd14 bs, zero14 (UInt8.ofNat k)) = (stp14 (fold14 (l.take j) (hd14 bs, zero14 (UInt8.ofNat k))).1 l[j], opp14 (fold14 (l.take j) (hd14 bs, zero14 (UInt8.ofNat k))).1 (fold14 (l.take j) (hd14 bs, zero14 (UInt8.ofNat k))).2 l[j]) := by
            unfold fold14
            rw [List.take_succ_eq_append_getElem hjl, List.foldl_append]
            rfl
          have hleft : (fold14 (l.take j) (hd14 bs, zero14 (UInt8.ofNat k))).1.bs.length ≤ 1099511627776 := by
            have h1 : _ ≤ (hd14 bs).bs.length := fold14_left (l.take j) (hd14 bs, zero14 (UInt8.ofNat k))
            have h2 := HHL.out
            have h3 := HBL.out
            omega
          have hit := Lib.iterAt_heap wr w4.heap.size (tx14 l) j (j + 1) HI.out
          have hnx := next_more14 HI.out hjl (by rcases hc with h | h | h | h <;> rw [h] <;> decide)
          have HV2 := Lib.hid (HW.out.iter HI.out hit4 (j + 1))
          have HIT := Lib.hid hit
          have HST := Lib.hid hst
          have HLF := Lib.hid hleft
          have HC := Lib.hid hc
          clear hst hit hleft HI HW hc
          generalize fold14 (l.take j) (hd14 bs, zero14 (UInt8.ofNat k)) = p at *
          obtain ⟨st, oo⟩ := p
          generalize l[j] = c at *
          generalize wr.iterAt w4.heap.size (tx14 l) (j + 1) = wi at *
          have hBQ2 : B ≠ Q := by omega
          go_wp2_with fail
          with_reducible refine (readPart14_calls B Q st oo c wi HV2.out.r HV2.out.o hBQ2 HLF.out HC.out).mono ?_
          rintro e w5 ⟨rfl, hr5, ho5, ht5⟩
          have HI5 := Lib.hid ((ht5.block w4.heap.size (Array.getElem?_eq_some_iff.1 HIT.out).1 (by rintro (e | e); exact HV2.out.r.no_iter14 HIT.out e; exact HV2.out.o.no_iter HIT.out e)).trans HIT.out)
          have HV5 := Lib.hid (HV2.out.part hBn hQn hr5 ho5 ht5)
          clear hr5 ho5 ht5
          go_wp2
          go_roundg (n - (j + 1))
          case measure => omega
          case rel => exact ⟨j + 1, by omega, by omega, HI5.out, by rw [HST.out]; exact HV5.out⟩
        · obtain rfl : j = n := by omega
          have HK := HN.out
          subst HK
          have hnx := next_end14 HI.out
          rw [List.take_length, ← HR.out] at HW
          have HEN := Lib.hid (rend_calls B (rdo14 bs).1 wr HW.out.r)
          rw [← HE.out] at HEN
          go_wp2_with fail
          with_reducible refine HEN.out.mono ?_
          rintro e w5 ⟨rfl, rfl⟩
          generalize (rdo14 bs).1 = se at *
          generalize (rdo14 bs).2 = oe at *
          have x0 := HW.out.z.c0
          have x1 := HW.out.z.c1
          have x2 := HW.out.z.c2
          have x3 := HW.out.z.c3
          have x4 := HW.out.z.c4
          have xf := HW.out.z.fr
          by_cases hre : re = 0
          · have hrv : rv = oe := by rw [HV.out, if_pos hre]
            subst hrv
            subst hre
            have y0 := HW.out.o.c0
            have y1 := HW.out.o.c1
            have y2 := HW.out.o.c2
            have y3 := HW.out.o.c3
            have y4 := HW.out.o.c4
            clear HE HV HEN
            go_wp2
            exact bodyPost_ret (results_two14 Tryd.results11 _ _ w.heap.size _ _ (0, 0) _ rfl (HW.out.z.setAll rv) Tryd.underlying24 rfl sizeOp14) rfl
              ⟨rfl, ((((HW.out.b.setCell (Nat.le_refl _) _).setCell (Nat.le_refl _) _).setCell (Nat.le_refl _) _).setCell (Nat.le_refl _) _).setCell (Nat.le_refl _) _⟩
          · have hrv : rv = zero14 0 := by rw [HV.out, if_neg hre]
            subst hrv
            have hd : (re != 0) = true := by simpa using hre
            clear HE HV HEN hre
            go_wp2
            exact bodyPost_ret (results_two14 Tryd.results11 _ _ w.heap.size _ _ (0, 0) _ rfl (HW.out.z.setAll (zero14 0)) Tryd.underlying24 rfl sizeOp14) rfl
              ⟨rfl, ((((HW.out.b.setCell (Nat.le_refl _) _).setCell (Nat.le_refl _) _).setCell (Nat.le_refl _) _).setCell (Nat.le_refl _) _).setCell (Nat.le_refl _) _⟩
end Go.Proofs.YtacmjmfdhegojaaDoor
