/-
  The document's Text of an operation tells its bytes.
  Conditions: texts of at most 65535 bytes.
-/
import Derived.Test.YtacmjmfdhegojaaDoorOpRef
namespace Go.Proofs.YtacmjmfdhegojaaDoor
open Go.RowKit

theorem refbox14 (o : O14) (w w2 : World) (hb : Below (w.alloc (.cells #[.int .u8 o.kd.toNat, .string o.a, .string o.b, .int .u8 o.nd.toNat, .int .u8 o.rl.toNat] 26)).heap.size (w.alloc (.cells #[.int .u8 o.kd.toNat, .string o.a, .string o.b, .int .u8 o.nd.toNat, .int .u8 o.rl.toNat] 26)) w2) :
    OpRt w2 w.heap.size o ∧ Below w.heap.size w w2 := by
  have a0 : OpRt (w.alloc (.cells #[.int .u8 o.kd.toNat, .string o.a, .string o.b, .int .u8 o.nd.toNat, .int .u8 o.rl.toNat] 26)) w.heap.size o := heap_alloc_new w _
  exact ⟨a0.below hb, next14 (alloc14 (Below.refl _ w) _) hb⟩

set_option maxRecDepth 100000 in
set_option maxHeartbeats 2000000 in
theorem rtxt14_calls (o : O14) (w : World) (hlit : Lit14 o) : Calls Tryd.prog 12 #[o.v] w (Says14 (.string (tx14 (opB14 o))) w) := by
  have HBX := Lib.hid (refbox14 o w)
  have HPT := Lib.hid (parts14_calls o.kd.toNat)
  have HTA : Hid (∀ W, Calls Tryd.prog 33 #[.string o.a] W (Says14 (.string (tx14 (textB o.a))) W)) := fun W => rtext14_calls o.a W hlit.1
  have HTB : Hid (∀ W, Calls Tryd.prog 33 #[.string o.b] W (Says14 (.string (tx14 (textB o.b))) W)) := fun W => rtext14_calls o.b W hlit.2
  have la : (textB o.a).length ≤ 65537 := by rw [textB_length]; have := hlit.1; omega
  have lb : (textB o.b).length ≤ 65537 := by rw [textB_length]; have := hlit.2; omega
  have HLA := Lib.hid la
  have HLB := Lib.hid lb
  clear la lb hlit
  unfold opB14
  rw [le_one14]
  unfold O14.v O14.cells
  have hcl := cls14 o.kd.toNat
  rcases hcl with ⟨hp, hs, _⟩ | ⟨hp, hs, _⟩ | ⟨hp, hs, _⟩ | ⟨hp, hs, _⟩ | ⟨hp, hs, _⟩
  · rw [hs]
    rw [hp] at HPT
    clear hp hs
    rw [show ([97, 98] : List UInt8).flatMap (part14 o) = textB o.a ++ textB o.b from by simp [part14]]
    have HCV := Lib.hid (fun W => conv14 (rd_one W o.kd))
    have hadd := fun W => cat14 W [o.kd] (textB o.a) (by have := HLA.out; simp; omega)
    have hadd2 := fun W => cat14 W ([o.kd] ++ textB o.a) (textB o.b) (by have := HLA.out; have := HLB.out; simp; omega)
    rw [← List.append_assoc]
    generalize tx14 (([o.kd] ++ textB o.a) ++ textB o.b) = out2 at *
    generalize tx14 ([o.kd] ++ textB o.a) = out at *
    generalize tx14 [o.kd] = s0 at *
    generalize tx14 (textB o.a) = ta at *
    generalize tx14 (textB o.b) = tb at *
    go_enter Tryd.func12, Tryd.ntmps12
    go_wp2_with fail
    with_reducible refine (HPT.out _).mono ?_
    rintro e w2 ⟨rfl, hb⟩
    obtain ⟨hx, hb2⟩ := HBX.out w2 hb
    have HB2 := Lib.hid hb2
    have HX := Lib.hid hx
    have z0 := hx.c0
    have hcv := HCV.out w2
    have hz := alloc14 (Below.refl _ w2) (.cells #[.int .u8 o.kd.toNat] 5)
    have hx3 := hx.below hz
    have HB3 := Lib.hid (next14 HB2.out hz)
    have HX3 := Lib.hid hx3
    have z1 := hx3.c1
    clear hb hx hb2 hz hx3
    go_wp2_with fail
    with_reducible refine (HTA.out _).mono ?_
    rintro e w4 ⟨rfl, hb⟩
    have HB4 := Lib.hid (next14 HB3.out hb)
    have hx4 := HX3.out.below hb
    have z2 := hx4.c2
    clear hb hx4 z0 z1
    go_wp2_with fail
    with_reducible refine (HTB.out _).mono ?_
    rintro e w5 ⟨rfl, hb⟩
    have HB5 := Lib.hid (next14 HB4.out hb)
    clear hb z2
    go_wp2
    go_ret
    exact ⟨rfl, HB5.out⟩
  · rw [hs]
    rw [hp] at HPT
    clear hp hs
    rw [show ([97] : List UInt8).flatMap (part14 o) = textB o.a from by simp [part14]]
    have HCV := Lib.hid (fun W => conv14 (rd_one W o.kd))
    have hadd := fun W => cat14 W [o.kd] (textB o.a) (by have := HLA.out; simp; omega)
    generalize tx14 ([o.kd] ++ textB o.a) = out at *
    generalize tx14 [o.kd] = s0 at *
    generalize tx14 (textB o.a) = ta at *
    generalize tx14 (textB o.b) = tb at *
    go_enter Tryd.func12, Tryd.ntmps12
    go_wp2_with fail
    with_reducible refine (HPT.out _).mono ?_
    rintro e w2 ⟨rfl, hb⟩
    obtain ⟨hx, hb2⟩ := HBX.out w2 hb
    have HB2 := Lib.hid hb2
    have HX := Lib.hid hx
    have z0 := hx.c0
    have hcv := HCV.out w2
    have hz := alloc14 (Below.refl _ w2) (.cells #[.int .u8 o.kd.toNat] 5)
    have hx3 := hx.below hz
    have HB3 := Lib.hid (next14 HB2.out hz)
    have HX3 := Lib.hid hx3
    have z1 := hx3.c1
    clear hb hx hb2 hz hx3
    go_wp2_with fail
    with_reducible refine (HTA.out _).mono ?_
    rintro e w4 ⟨rfl, hb⟩
    have HB4 := Lib.hid (next14 HB3.out hb)
    have hx4 := HX3.out.below hb
    clear hb hx4 z0 z1
    go_wp2
    go_ret
    exact ⟨rfl, HB4.out⟩
  · rw [hs]
    rw [hp] at HPT
    clear hp hs
    rw [show ([] : List UInt8).flatMap (part14 o) = [] from by simp [part14]]
    have HCV := Lib.hid (fun W => conv14 (rd_one W o.kd))
    rw [List.append_nil]
    generalize tx14 [o.kd] = s0 at *
    go_enter Tryd.func12, Tryd.ntmps12
    go_wp2_with fail
    with_reducible refine (HPT.out _).mono ?_
    rintro e w2 ⟨rfl, hb⟩
    obtain ⟨hx, hb2⟩ := HBX.out w2 hb
    have HB2 := Lib.hid hb2
    have HX := Lib.hid hx
    have z0 := hx.c0
    have hcv := HCV.out w2
    have hz := alloc14 (Below.refl _ w2) (.cells #[.int .u8 o.kd.toNat] 5)
    have hx3 := hx.below hz
    have HB3 := Lib.hid (next14 HB2.out hz)
    clear hb hx hb2 hz hx3
    go_wp2
    go_ret
    exact ⟨rfl, HB3.out⟩
  · rw [hs]
    rw [hp] at HPT
    clear hp hs
    rw [show ([110, 114] : List UInt8).flatMap (part14 o) = [o.nd, o.rl] from by simp [part14, le_one14]]
    have HCV := Lib.hid (fun W => conv14 (rd_one W o.kd))
    have HCW := Lib.hid (fun W => conv14 (rd_two14 W o.nd o.rl))
    have hadd := fun W => cat14 W [o.kd] [o.nd, o.rl] (by simp)
    generalize tx14 ([o.kd] ++ [o.nd, o.rl]) = out at *
    generalize tx14 [o.kd] = s0 at *
    generalize tx14 [o.nd, o.rl] = s1 at *
    go_enter Tryd.func12, Tryd.ntmps12
    go_wp2_with fail
    with_reducible refine (HPT.out _).mono ?_
    rintro e w2 ⟨rfl, hb⟩
    obtain ⟨hx, hb2⟩ := HBX.out w2 hb
    have HB2 := Lib.hid hb2
    have HX := Lib.hid hx
    have z0 := hx.c0
    have hcv := HCV.out w2
    have hz := alloc14 (Below.refl _ w2) (.cells #[.int .u8 o.kd.toNat] 5)
    have hx3 := hx.below hz
    have z3 := hx3.c3
    have z4 := hx3.c4
    have hcw := HCW.out (w2.alloc (.cells #[.int .u8 o.kd.toNat] 5))
    have e2 : (w2.alloc (.cells #[.int .u8 o.kd.toNat] 5)).heap.size = w2.heap.size + 1 := by simp
    rw [e2] at hcw
    have HB3 := Lib.hid (alloc14 (next14 HB2.out hz) (.cells #[.int .u8 o.nd.toNat, .int .u8 o.rl.toNat] 5))
    clear hb hx hb2 hz hx3 e2
    go_wp2
    go_ret
    exact ⟨rfl, HB3.out⟩
  · rw [hs]
    rw [hp] at HPT
    clear hp hs
    rw [show ([] : List UInt8).flatMap (part14 o) = [] from by simp [part14]]
    have HCV := Lib.hid (fun W => conv14 (rd_one W o.kd))
    rw [List.append_nil]
    generalize tx14 [o.kd] = s0 at *
    go_enter Tryd.func12, Tryd.ntmps12
    go_wp2_with fail
    with_reducible refine (HPT.out _).mono ?_
    rintro e w2 ⟨rfl, hb⟩
    obtain ⟨hx, hb2⟩ := HBX.out w2 hb
    have HB2 := Lib.hid hb2
    have HX := Lib.hid hx
    have z0 := hx.c0
    have hcv := HCV.out w2
    have hz := alloc14 (Below.refl _ w2) (.cells #[.int .u8 o.kd.toNat] 5)
    have hx3 := hx.below hz
    have HB3 := Lib.hid (next14 HB2.out hz)
    clear hb hx hb2 hz hx3
    go_wp2
    go_ret
    exact ⟨rfl, HB3.out⟩
end Go.Proofs.YtacmjmfdhegojaaDoor
