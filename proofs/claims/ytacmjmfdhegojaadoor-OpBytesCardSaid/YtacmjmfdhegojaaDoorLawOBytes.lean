/-
  OpBytes walked: an operation that may be has the document's bytes, and is read from them; of another one it is told why it has none.
  Conditions: the table reads as it is laid.
-/
import Derived.Test.YtacmjmfdhegojaaDoorOpMath
import Derived.Test.YtacmjmfdhegojaaDoorInv
namespace Go.Proofs.YtacmjmfdhegojaaDoor
open Go.RowKit

/-- What each operation makes. -/
def YOb14 (sl : Value) (s : ByteArray) (m : Nat) (ov : Value) : Nat → Value → Prop
  | 0, v => v = sl
  | 1, v => v = .string s
  | 2, v => v = ov
  | 3, v => v = .string s
  | 6, v => v = sl
  | 7, v => v = .int .i64 m
  | 11, v => v = .int .i64 0
  | 15, v => v = ov
  | 16, v => v = ov
  | _, v => v = .bool true

set_option maxRecDepth 100000 in
set_option maxHeartbeats 8000000 in
theorem obytes14_walk (o : O14) (w : World) (h : Laid14 w) :
    Calls Tryd.prog 3 #[o.v] w fun e w' => e = .returned (.bool true) ∧ Below w.heap.size w w' := by
  have HLV := Lib.hid (fun W (hw : Laid14 W) => lives14_calls W hw)
  have hb1 := alloc14 (Below.refl _ w) (.cells #[.int .u8 o.kd.toNat, .string o.a, .string o.b, .int .u8 o.nd.toNat, .int .u8 o.rl.toNat] 24)
  have ha1 : OpAt (w.alloc (.cells #[.int .u8 o.kd.toNat, .string o.a, .string o.b, .int .u8 o.nd.toNat, .int .u8 o.rl.toNat] 24)) w.heap.size o := heap_alloc_new w _
  have HB1 := Lib.hid hb1
  have HA1 := Lib.hid ha1
  have HL1 := Lib.hid (h.later hb1)
  clear hb1 ha1 h
  by_cases hna : 200 < o.a.size
  · have da : decide ((o.a.size : Int) > 200) = true := by simp; omega
    have ca := HA1.out.c1
    clear hna
    unfold O14.v O14.cells
    go_enter Tryd.func3, Tryd.ntmps3
    go_wp2_with fail
    with_reducible refine (HLV.out _ HL1.out).mono ?_
    rintro e w2 ⟨rfl, hb⟩
    have HB2 := Lib.hid (next14 HB1.out hb)
    have HL2 := Lib.hid (HL1.out.later hb)
    have hA2 := HA1.out.below hb
    have a1 := hA2.c1
    have a2 := hA2.c2
    clear hb hA2
    go_wp2_with fail
    with_reducible refine (HLV.out _ HL2.out).mono ?_
    rintro e w3 ⟨rfl, hb⟩
    have HB3 := Lib.hid (next14 HB2.out hb)
    clear hb
    go_wp2
    go_ret
    exact ⟨rfl, HB3.out⟩
  have da : decide ((o.a.size : Int) > 200) = false := by simp; omega
  by_cases hnb : 200 < o.b.size
  · have db : decide ((o.b.size : Int) > 200) = true := by simp; omega
    have cb := HA1.out.c2
    clear hnb
    unfold O14.v O14.cells
    go_enter Tryd.func3, Tryd.ntmps3
    go_wp2_with fail
    with_reducible refine (HLV.out _ HL1.out).mono ?_
    rintro e w2 ⟨rfl, hb⟩
    have HB2 := Lib.hid (next14 HB1.out hb)
    have HL2 := Lib.hid (HL1.out.later hb)
    have hA2 := HA1.out.below hb
    have a1 := hA2.c1
    have a2 := hA2.c2
    clear hb hA2
    go_wp2_with fail
    with_reducible refine (HLV.out _ HL2.out).mono ?_
    rintro e w3 ⟨rfl, hb⟩
    have HB3 := Lib.hid (next14 HB2.out hb)
    clear hb
    go_wp2
    go_ret
    exact ⟨rfl, HB3.out⟩
  have db : decide ((o.b.size : Int) > 200) = false := by simp; omega
  have hlit : Lit14 o := ⟨by omega, by omega⟩
  clear hna hnb
  have HBY := Lib.hid (fun W (hw : Laid14 W) => bytes14_calls o W hw hlit)
  have HCK := Lib.hid (fun W (hw : Laid14 W) => check14_calls o W hw hlit)
  have HRC := Lib.hid (fun W => rcheck14_calls o W hlit)
  have HTX := Lib.hid (fun W => rtxt14_calls o W hlit)
  have HBK := Lib.hid (fun e => back14 (o := o) e hlit)
  have HLEN : Hid (chk14 o = 0 → (opB14 o).length ≤ 64) := fun e => by
    unfold chk14 at e
    split at e
    · split at e
      · cases e
      · omega
    · cases e
  have HEQ : Hid (∀ W, (binOp .eql 24 o.v o.v).run Tryd.prog W = .ok (.bool true) W) := fun W => by rw [eql14, same14_iff.2 rfl]
  have HRD := Lib.hid (fun v bs W hw hv hm => read14_calls v bs W hw hv hm)
  clear hlit
  unfold Bys14 at HBY
  unfold O14.v O14.cells at HBY HCK HRC HTX HEQ ⊢
  obtain ⟨ck, hck⟩ : ∃ ck, ck = chk14 o := ⟨_, rfl⟩
  rw [← hck] at HBY HCK HRC HBK HLEN
  clear hck
  go_enter Tryd.func3, Tryd.ntmps3
  go_wp2_with fail
  with_reducible refine (HLV.out _ HL1.out).mono ?_
  rintro e w2 ⟨rfl, hb⟩
  have HB2 := Lib.hid (next14 HB1.out hb)
  have HL2 := Lib.hid (HL1.out.later hb)
  have hA2 := HA1.out.below hb
  have a0 := hA2.c0
  have a1 := hA2.c1
  have a2 := hA2.c2
  have a3 := hA2.c3
  have a4 := hA2.c4
  have hlt2 := hA2.lt
  have hz := alloc14 (Below.refl _ w2) (.cells #[.int .u8 o.kd.toNat, .string o.a, .string o.b, .int .u8 o.nd.toNat, .int .u8 o.rl.toNat] 26)
  have hX3 : OpRt (w2.alloc (.cells #[.int .u8 o.kd.toNat, .string o.a, .string o.b, .int .u8 o.nd.toNat, .int .u8 o.rl.toNat] 26)) w2.heap.size o := heap_alloc_new w2 _
  have HX3 := Lib.hid hX3
  have HA3 := Lib.hid (hA2.below hz)
  have HB3 := Lib.hid (next14 HB2.out hz)
  have HL3 := Lib.hid (HL2.out.later hz)
  clear hb hz hX3 hA2 HB1 HA1 HL1 HB2 HL2 HLV
  go_wp2_with fail
  refine (HBY.out _ HL3.out).mono ?_
  clear HBY a0 a1 a2 a3 a4
  rintro e w4 (⟨hne, rfl, hb⟩ | ⟨rfl, A, c, rfl, ho, hv, hb⟩)
  · have HX4 := Lib.hid (HX3.out.below hb)
    have HA4 := Lib.hid (HA3.out.below hb)
    have HB4 := Lib.hid (next14 HB3.out hb)
    have HL4 := Lib.hid (HL3.out.later hb)
    clear hb HX3 HA3 HB3 HL3 HEQ HRD HTX HBK HLEN
    have d0 : (ck != 0) = true := by simpa using hne
    have dself : (ck != ck) = false := by simp
    clear hne
    have x0 := HX4.out.c0
    have x1 := HX4.out.c1
    have x2 := HX4.out.c2
    have x3 := HX4.out.c3
    have x4 := HX4.out.c4
    go_wp2_with fail
    with_reducible refine (HRC.out _).mono ?_
    rintro e w5 ⟨rfl, hb⟩
    have hA5 := HA4.out.below hb
    have HB5 := Lib.hid (next14 HB4.out hb)
    have HL5 := Lib.hid (HL4.out.later hb)
    have a0 := hA5.c0
    have a1 := hA5.c1
    have a2 := hA5.c2
    have a3 := hA5.c3
    have a4 := hA5.c4
    clear hb hA5 x0 x1 x2 x3 x4
    go_wp2_with fail
    with_reducible refine (HCK.out _ HL5.out).mono ?_
    rintro e w6 ⟨rfl, hb⟩
    have HB6 := Lib.hid (next14 HB5.out hb)
    clear hb a0 a1 a2 a3 a4
    go_wp2
    go_ret
    exact ⟨rfl, HB6.out⟩
  · have HX4 := Lib.hid (HX3.out.below hb)
    have HA4 := Lib.hid (HA3.out.below hb)
    have HB4 := Lib.hid (next14 HB3.out hb)
    have HL4 := Lib.hid (HL3.out.later hb)
    have hrd := Rd.of_own ho
    have hlen := HLEN.out rfl
    have HRD4 := Lib.hid hrd
    obtain ⟨hbe, hbv⟩ := HBK.out rfl
    have HBE := Lib.hid hbe
    have HBV := Lib.hid hbv
    clear hb HX3 HA3 HB3 HL3 ho hv hrd hbe hbv HBK HLEN
    have x0 := HX4.out.c0
    have x1 := HX4.out.c1
    have x2 := HX4.out.c2
    have x3 := HX4.out.c3
    have x4 := HX4.out.c4
    go_wp2_with fail
    with_reducible refine (HRC.out _).mono ?_
    rintro e w5 ⟨rfl, hb⟩
    have hA5 := HA4.out.below hb
    have HA5 := Lib.hid hA5
    have HX5 := Lib.hid (HX4.out.below hb)
    have HB5 := Lib.hid (next14 HB4.out hb)
    have HL5 := Lib.hid (HL4.out.later hb)
    have HRD5 := Lib.hid (HRD4.out.still (turns14 hb))
    have a0 := hA5.c0
    have a1 := hA5.c1
    have a2 := hA5.c2
    have a3 := hA5.c3
    have a4 := hA5.c4
    clear hb hA5 x0 x1 x2 x3 x4 HRC HX4 HA4 HB4 HL4 HRD4
    go_wp2_with fail
    with_reducible refine (HCK.out _ HL5.out).mono ?_
    rintro e w6 ⟨rfl, hb⟩
    have HA6 := Lib.hid (HA5.out.below hb)
    have HX6 := Lib.hid (HX5.out.below hb)
    have HB6 := Lib.hid (next14 HB5.out hb)
    have HL6 := Lib.hid (HL5.out.later hb)
    have HRD6 := Lib.hid (HRD5.out.still (turns14 hb))
    clear hb a0 a1 a2 a3 a4 HCK HA5 HX5 HB5 HL5 HRD5
    have HRC7 := Lib.hid (HRD.out _ (opB14 o) w6 HL6.out HRD6.out (by omega))
    rw [HBE.out, HBV.out] at HRC7
    unfold O14.v O14.cells at HRC7
    clear HRD HBE HBV
    obtain ⟨m, hm⟩ : ∃ m, m = (opB14 o).length := ⟨_, rfl⟩
    rw [← hm] at HRC7 HRD6 hlen ⊢
    clear hm
    have HLE := Lib.hid hlen
    clear hlen
    go_wp2_with fail
    with_reducible refine HRC7.out.mono ?_
    rintro e w7 ⟨rfl, hb⟩
    have hA7 := HA6.out.below hb
    have hX7 := HX6.out.below hb
    have hB7 := next14 HB6.out hb
    have hR7 := HRD6.out.still (turns14 hb)
    have hz := alloc14 (Below.refl _ w7) (.cells #[.int .u8 o.kd.toNat, .string o.a, .string o.b, .int .u8 o.nd.toNat, .int .u8 o.rl.toNat] 24)
    have hP8 : OpAt (w7.alloc (.cells #[.int .u8 o.kd.toNat, .string o.a, .string o.b, .int .u8 o.nd.toNat, .int .u8 o.rl.toNat] 24)) w7.heap.size o := heap_alloc_new w7 _
    have HP8 := Lib.hid hP8
    have HA8 := Lib.hid (hA7.below hz)
    have HX8 := Lib.hid (hX7.below hz)
    have HB8 := Lib.hid (next14 hB7 hz)
    have HR8 := Lib.hid (hR7.still (turns14 hz))
    clear hb hz hP8 hA7 hX7 hB7 hR7 HA6 HX6 HB6 HL6 HRD6 HRC7
    go_wp2
    generalize w7.alloc (.cells #[.int .u8 o.kd.toNat, .string o.a, .string o.b, .int .u8 o.nd.toNat, .int .u8 o.rl.toNat] 24) = w8 at *
    have dm : decide ((m : Int) ≤ 64) = true := by have := HLE.out; simp; omega
    have HDM := Lib.hid dm
    have HCV : Hid (∀ W, Below w8.heap.size w8 W → (convert 27 9 (.slice A m c)).run Tryd.prog W = .ok (.string (tx14 (opB14 o))) W) := fun W hb => conv14 (HR8.out.still (turns14 hb))
    clear dm HLE
    generalize tx14 (opB14 o) = s at *
    have hss : (s.toList == s.toList) = true := by simp
    refine wp_region_inv (by kernel_rfl) (fun W => Below w8.heap.size w8 W) (fun j v _ => YOb14 (.slice A m c) s m (.agg #[.int .u8 o.kd.toNat, .string o.a, .string o.b, .int .u8 o.nd.toNat, .int .u8 o.rl.toNat]) j v) ?F ?hF (by kernel_rfl) (by kernel_rfl) (drew14 (Below.refl _ _)) ?step ?fin
    case hF =>
      intro x
      simp only [List.map_cons, List.map_nil, putL, Act.put, List.setIfInBounds_toArray, List.set_cons_zero, List.set_cons_succ, Nat.zero_add, Nat.reduceAdd]
      exact rfl
    case step =>
      refine ⟨?_, ?_, ?_, ?_, ?_, ?_, ?_, ?_, ?_, ?_, ?_, ?_, ?_, ?_, ?_, ?_, ?_, ?_, ?_, ?_, trivial⟩
      all_goals intro x W hW hdep K hK
      · clear hdep
        go_simp
        exact hK _ _ rfl hW (fun _ _ h => h)
      · have h0 : x 0 = _ := hdep 0 rfl
        have hcv := HCV.out W hW
        clear hdep
        simp only [h0] at hK
        go_simp
        exact hK _ _ rfl hW (fun _ _ h => h)
      · have q := HX8.out.below hW
        have q0 := q.c0
        have q1 := q.c1
        have q2 := q.c2
        have q3 := q.c3
        have q4 := q.c4
        clear q
        clear hdep
        go_simp
        exact hK _ _ rfl hW (fun _ _ h => h)
      · have h2 : x 2 = _ := hdep 2 rfl
        clear hdep
        simp only [h2] at hK
        go_simp
        refine (HTX.out W).mono ?_
        rintro e W' ⟨rfl, hb⟩
        exact hK _ _ rfl (next14 hW hb) (fun _ _ h => h)
      · have h1 : x 1 = _ := hdep 1 rfl
        have h3 : x 3 = _ := hdep 3 rfl
        clear hdep
        simp only [h1, h3] at hK
        go_simp
        exact hK _ _ rfl hW (fun _ _ h => h)
      · have h4 : x 4 = _ := hdep 4 rfl
        clear hdep
        simp only [h4] at hK
        go_simp
        exact hK _ _ rfl hW (fun _ _ h => h)
      · have h5 : x 5 = _ := hdep 5 rfl
        clear hdep
        simp only [h5] at hK
        go_simp
        exact hK _ _ rfl hW (fun _ _ h => h)
      · have h5 : x 5 = _ := hdep 5 rfl
        have h6 : x 6 = _ := hdep 6 rfl
        clear hdep
        simp only [h5, h6] at hK
        go_simp
        exact hK _ _ rfl hW (fun _ _ h => h)
      · have h5 : x 5 = _ := hdep 5 rfl
        have h7 : x 7 = _ := hdep 7 rfl
        have dm := HDM.out
        clear hdep
        simp only [h5, h7] at hK
        go_simp
        exact hK _ _ rfl hW (fun _ _ h => h)
      · have h5 : x 5 = _ := hdep 5 rfl
        have h8 : x 8 = _ := hdep 8 rfl
        clear hdep
        simp only [h5, h8] at hK
        go_simp
        exact hK _ _ rfl hW (fun _ _ h => h)
      · have h9 : x 9 = _ := hdep 9 rfl
        clear hdep
        simp only [h9] at hK
        go_simp
        exact hK _ _ rfl hW (fun _ _ h => h)
      · have h10 : x 10 = _ := hdep 10 rfl
        clear hdep
        simp only [h10] at hK
        go_simp
        exact hK _ _ rfl hW (fun _ _ h => h)
      · have h10 : x 10 = _ := hdep 10 rfl
        have h11 : x 11 = _ := hdep 11 rfl
        clear hdep
        simp only [h10, h11] at hK
        go_simp
        exact hK _ _ rfl hW (fun _ _ h => h)
      · have h10 : x 10 = _ := hdep 10 rfl
        have h12 : x 12 = _ := hdep 12 rfl
        clear hdep
        simp only [h10, h12] at hK
        go_simp
        exact hK _ _ rfl hW (fun _ _ h => h)
      · have h13 : x 13 = _ := hdep 13 rfl
        clear hdep
        simp only [h13] at hK
        go_simp
        exact hK _ _ rfl hW (fun _ _ h => h)
      · have h14 : x 14 = _ := hdep 14 rfl
        have q := HP8.out.below hW
        have q0 := q.c0
        have q1 := q.c1
        have q2 := q.c2
        have q3 := q.c3
        have q4 := q.c4
        clear q
        clear hdep
        simp only [h14] at hK
        go_simp
        exact hK _ _ rfl hW (fun _ _ h => h)
      · have h14 : x 14 = _ := hdep 14 rfl
        have q := HA8.out.below hW
        have q0 := q.c0
        have q1 := q.c1
        have q2 := q.c2
        have q3 := q.c3
        have q4 := q.c4
        clear q
        clear hdep
        simp only [h14] at hK
        go_simp
        exact hK _ _ rfl hW (fun _ _ h => h)
      · have h14 : x 14 = _ := hdep 14 rfl
        have h15 : x 15 = _ := hdep 15 rfl
        have h16 : x 16 = _ := hdep 16 rfl
        have heq := HEQ.out W
        clear hdep
        simp only [h14, h15, h16] at hK
        go_simp
        exact hK _ _ rfl hW (fun _ _ h => h)
      · have h14 : x 14 = _ := hdep 14 rfl
        have h17 : x 17 = _ := hdep 17 rfl
        clear hdep
        simp only [h14, h17] at hK
        go_simp
        exact hK _ _ rfl hW (fun _ _ h => h)
      · have h18 : x 18 = _ := hdep 18 rfl
        clear hdep
        simp only [h18] at hK
        go_simp
        exact hK _ _ rfl hW (fun _ _ h => h)
    case fin =>
      intro x W hW hY
      have h19 : x 19 = .bool true := hY 19 (by decide)
      have HB9 := Lib.hid (next14 HB8.out hW)
      clear hY hW
      rw [h19]
      go_wp2
      go_ret
      exact ⟨rfl, HB9.out⟩
end Go.Proofs.YtacmjmfdhegojaaDoor
