/-
  Whether an operation may be: formed.
  Conditions: the table reads as it is laid.
-/
import Derived.Test.YtacmjmfdhegojaaDoorOpEq
namespace Go.Proofs.YtacmjmfdhegojaaDoor
open Go.RowKit

/-- Its kind, and all that it has, may be. -/
def frm_14 (o : O14) : Bool := (sig14 o.kd.toNat).all (snd14 o.nd.toNat o.rl.toNat) && (know14 o.kd.toNat && same14 o (own14 o))

theorem box1_14 (o : O14) (w w2 : World) (hb : Below (w.alloc (.cells #[.int .u8 o.kd.toNat, .string o.a, .string o.b, .int .u8 o.nd.toNat, .int .u8 o.rl.toNat] 24)).heap.size (w.alloc (.cells #[.int .u8 o.kd.toNat, .string o.a, .string o.b, .int .u8 o.nd.toNat, .int .u8 o.rl.toNat] 24)) w2) :
    OpAt w2 w.heap.size o ∧ Below w.heap.size w w2 ∧ w.heap.size < w2.heap.size := by
  have a0 : OpAt (w.alloc (.cells #[.int .u8 o.kd.toNat, .string o.a, .string o.b, .int .u8 o.nd.toNat, .int .u8 o.rl.toNat] 24)) w.heap.size o := heap_alloc_new w _
  have a1 := a0.below hb
  exact ⟨a1, next14 (alloc14 (Below.refl _ w) _) hb, a1.lt⟩

set_option maxRecDepth 100000 in
set_option maxHeartbeats 1000000 in
theorem formed14_calls (o : O14) (w : World) (h : Laid14 w) : Calls Tryd.prog 25 #[o.v] w (Says14 (.bool (frm_14 o)) w) := by
  obtain ⟨l, hl⟩ : ∃ l, l = sig14 o.kd.toNat := ⟨_, rfl⟩
  have hsg := sig14_signs o.kd.toNat
  rw [← hl] at hsg
  have HS := Lib.hid hsg
  obtain ⟨r, hr⟩ : ∃ r, r = frm_14 o := ⟨_, rfl⟩
  rw [← hr]
  have HR : Hid (r = (l.all (snd14 o.nd.toNat o.rl.toNat) && (know14 o.kd.toNat && same14 o (own14 o)))) := by rw [hr, hl]; rfl
  have HF := fun W (hw : Laid14 W) => of14_calls o.kd.toNat W hw
  unfold trt14 at HF
  rw [← hl] at HF
  clear hr hsg hl
  generalize tx14 (nam14 o.kd.toNat) = s0 at *
  generalize frm14 o.kd.toNat = f at *
  have hf := fun W => fieldS14 s0 (tx14 l) f W
  have hw64 : wrap64 (o.kd.toNat : Int) = o.kd.toNat := IntWalk.wrap64_in _ (by have := o.kd.toNat_lt; omega)
  have HFF := Lib.hid HF
  have HL := Lib.hid h
  have HBX := Lib.hid (fun w2 hb => box1_14 o w w2 hb)
  have HL3 : Hid (Laid14 (w.alloc (.cells #[.int .u8 o.kd.toNat, .string o.a, .string o.b, .int .u8 o.nd.toNat, .int .u8 o.rl.toNat] 24))) := h.later (alloc14 (Below.refl _ w) _)
  have HSO := Lib.hid (fun c W => sound14_calls o c W)
  have HOW := Lib.hid (fun W (hw : Laid14 W) => own14_calls o W hw)
  have HKN := Lib.hid (fun W => known14_calls o.kd.toNat W)
  have HEQ := Lib.hid (fun W => eql14 o (own14 o) W)
  clear HF h
  unfold O14.v O14.cells at HSO HOW HEQ ⊢
  obtain ⟨n, hn⟩ : ∃ n, n = l.length := ⟨_, rfl⟩
  have HN := Lib.hid hn
  clear hn
  go_enter Tryd.func25, Tryd.ntmps25
  go_wp2_with (go_at_call 30; (with_reducible refine (HFF.out _ HL3.out).mono ?_); rintro e w2 ⟨rfl, hb⟩; obtain ⟨x0, hb2, hsz⟩ := HBX.out w2 hb; have X0 := Lib.hid x0; have HB2 := Lib.hid hb2; clear hb x0 hb2 HL3 HBX)
  go_wp2
  go_loopg [4] n (fun gg _ wr => ∃ k : Nat, k ≤ n ∧ n - k ≤ gg ∧ Hid (wr.heap[w2.heap.size]? = some (.stringIter (tx14 l) k)) ∧ Hid (OpAt wr w.heap.size o) ∧ Hid ((l.take k).all (snd14 o.nd.toNat o.rl.toNat) = true) ∧ Hid (Below w.heap.size w wr))
  case atStart =>
    have hi := World.iter_heap w2 (tx14 l) 0
    have hz := alloc14 (Below.refl _ w2) (.stringIter (tx14 l) 0)
    exact ⟨0, Nat.zero_le _, by omega, hi, X0.out.below hz, rfl, next14 HB2.out hz⟩
  case round =>
    obtain ⟨k, hk, hg, HI, Y0, YA, HW⟩ := hrel
    by_cases hlt : k < n
    · have hkl : k < l.length := HN.out ▸ hlt
      have hc := HS.out l[k] (List.getElem_mem hkl)
      have hst : (l.take (k + 1)).all (snd14 o.nd.toNat o.rl.toNat) = snd14 o.nd.toNat o.rl.toNat l[k] := by
        rw [List.take_succ_eq_append_getElem hkl, List.all_append, YA.out]; simp
      have hno : snd14 o.nd.toNat o.rl.toNat l[k] = false → r = false := fun e => by
        have : l.all (snd14 o.nd.toNat o.rl.toNat) = false := List.all_eq_false.2 ⟨l[k], List.getElem_mem hkl, by rw [e]; decide⟩
        rw [HR.out, this]; rfl
      have hit := Lib.iterAt_heap wr w2.heap.size (tx14 l) k (k + 1) HI.out
      have hnx := next_more14 HI.out hkl (by rcases hc with h | h | h | h <;> rw [h] <;> decide)
      have HIT := Lib.hid hit
      have Z0 := Lib.hid (Y0.out.iter (k := w2.heap.size) (by omega) (tx14 l) (k + 1))
      have ZW := Lib.hid (Lib.below_iterAt HW.out (k := w2.heap.size) (by omega) (tx14 l) (k + 1))
      have HST := Lib.hid hst
      have HNO := Lib.hid hno
      have hsz2 : w2.heap.size < (wr.iterAt w2.heap.size (tx14 l) (k + 1)).heap.size := (Array.getElem?_eq_some_iff.1 hit).1
      clear hst hit HI Y0 YA HW hno
      have HSC := Lib.hid (HSO.out l[k])
      generalize snd14 o.nd.toNat o.rl.toNat l[k] = b at *
      generalize l[k] = c at *
      generalize wr.iterAt w2.heap.size (tx14 l) (k + 1) = wi at *
      have z0 := Z0.out.c0
      have z1 := Z0.out.c1
      have z2 := Z0.out.c2
      have z3 := Z0.out.c3
      have z4 := Z0.out.c4
      clear hc
      cases b
      · have hr0 := HNO.out rfl
        subst hr0
        go_wp2_with (go_at_call 47; (with_reducible refine (HSC.out _).mono ?_); rintro e w3 ⟨rfl, hb⟩; have HB3 := Lib.hid (ZW.out.trans (hb.mono (by omega))); clear hb)
        go_wp2
        go_ret
        exact ⟨rfl, HB3.out⟩
      · go_wp2_with (go_at_call 47; (with_reducible refine (HSC.out _).mono ?_); rintro e w3 ⟨rfl, hb⟩; have HB3 := Lib.hid (ZW.out.trans (hb.mono (by omega))); have HI3 := Lib.hid ((hb.block w2.heap.size hsz2).trans HIT.out); have Z3 := Lib.hid (Z0.out.below hb); clear hb)
        go_wp2
        go_roundg (n - (k + 1))
        case measure => omega
        case rel => exact ⟨k + 1, by omega, by omega, HI3.out, Z3.out, HST.out, HB3.out⟩
    · obtain rfl : k = n := by omega
      have HK := HN.out
      subst HK
      have hnx := next_end14 HI.out
      rw [List.take_length] at YA
      have hrr : r = (know14 o.kd.toNat && same14 o (own14 o)) := by rw [HR.out, YA.out]; rfl
      have HRR := Lib.hid hrr
      have HLW := Lib.hid (HL.out.later (HW.out.drew))
      have hwi : IntKind.i64.wrap (o.kd.toNat : Int) = o.kd.toNat := IntWalk.i64_in _ (by have := o.kd.toNat_lt; omega)
      have y0 := Y0.out.c0
      have y1 := Y0.out.c1
      have y2 := Y0.out.c2
      have y3 := Y0.out.c3
      have y4 := Y0.out.c4
      clear hrr HR
      generalize know14 o.kd.toNat = kn at *
      generalize same14 o (own14 o) = sm at *
      cases kn
      · obtain rfl : r = false := HRR.out
        go_wp2
        go_region_with (go_at_call 28; (with_reducible refine (HKN.out _).mono ?_); rintro e w5 ⟨rfl, rfl⟩)
        all_goals
          go_wp2
          go_ret
          exact ⟨rfl, drewN14 HW.out _⟩
      · obtain rfl : r = sm := HRR.out
        have heq := HEQ.out
        go_wp2
        go_region_with (first | (go_at_call 28; (with_reducible refine (HKN.out _).mono ?_); rintro e w5 ⟨rfl, rfl⟩) | (go_at_call 48; (with_reducible refine (HOW.out _ HLW.out).mono ?_); rintro e w5 ⟨rfl, hb⟩; have Q5 : OpAt w5 w.heap.size o := (show OpAt wr.drew w.heap.size o from Y0.out).below hb; have q0 := Q5.c0; have q1 := Q5.c1; have q2 := Q5.c2; have q3 := Q5.c3; have q4 := Q5.c4; have HB5 := Lib.hid hb; clear hb Q5))
        all_goals
          go_wp2
          go_ret
          exact ⟨rfl, HW.out.drew.trans (HB5.out.mono HW.out.size)⟩
end Go.Proofs.YtacmjmfdhegojaaDoor
