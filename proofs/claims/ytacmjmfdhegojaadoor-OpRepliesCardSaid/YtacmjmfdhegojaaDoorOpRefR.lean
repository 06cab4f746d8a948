/-
  The document's Read of an operation tells what the code's tells.
  Conditions: bytes of at most 1000.
-/
import Derived.Test.YtacmjmfdhegojaaDoorOpMath
import Derived.Test.YtacmjmfdhegojaaDoorRefT
namespace Go.Proofs.YtacmjmfdhegojaaDoor
open Go.RowKit

theorem sizeRt14 : (Tryd.prog.info? 26).map (·.size) = some 5 := by kernel_rfl
/-- The document's Read under way: what it will tell, the operation, the reader. -/
structure RR14 (w : World) (X Q : Nat) (b : ByteArray) (e : Int) (o : O14) (W : World) : Prop where
  z : OpRt W w.heap.size (zero14 0)
  o : OpRt W X o
  r : Blk2 W Q (.string b) (.int .i64 e)
  b : Below w.heap.size w W
section
variable {w W W' : World} {X Q : Nat} {b b' : ByteArray} {e e' : Int} {o : O14}
theorem RR14.below (h : RR14 w X Q b e o W) (hb : Below W.heap.size W W') : RR14 w X Q b e o W' :=
  ⟨h.z.below hb, h.o.below hb, h.r.still (turns14 hb), next14 h.b hb⟩
theorem OpRt.drew14 {B : Nat} (h : OpRt W B o) : OpRt W.drew B o := h
theorem RR14.drew (h : RR14 w X Q b e o W) : RR14 w X Q b e o W.drew := ⟨h.z, h.o, h.r, h.b.drew⟩
theorem Blk2.far14 {g : Nat} {x y : Value} (h : Blk2 W g x y) {p : Addr} (hp : g ≠ p.block) (u : Value) : Blk2 (W.setCell p u) g x y := (Below.heap_setCell W p u g hp).trans h
theorem Blk2.set1_14 {g : Nat} {x y : Value} (h : Blk2 W g x y) (u : Value) : Blk2 (W.setCell ⟨g, 1, none⟩ u) g x u := by
  unfold Blk2 at h ⊢; simp [World.setCell, Array.getElem?_modify, h]
theorem RR14.rdr (h : RR14 w X Q b e o W) (hX : w.heap.size < X) (hXQ : X < Q) (b' : ByteArray) (e' : Int) : RR14 w X Q b' e' o ((W.setCell ⟨Q, 0, none⟩ (.string b')).setCell ⟨Q, 1, none⟩ (.int .i64 e')) :=
  ⟨(h.z.far (by show _ ≠ Q; omega) _).far (by show _ ≠ Q; omega) _, (h.o.far (by show _ ≠ Q; omega) _).far (by show _ ≠ Q; omega) _, h.r.set,
    (h.b.setCell (by show _ ≤ Q; omega) _).setCell (by show _ ≤ Q; omega) _⟩
theorem RR14.err (h : RR14 w X Q b e o W) (hX : w.heap.size < X) (hXQ : X < Q) (e' : Int) : RR14 w X Q b e' o (W.setCell ⟨Q, 1, none⟩ (.int .i64 e')) :=
  ⟨h.z.far (by show _ ≠ Q; omega) _, h.o.far (by show _ ≠ Q; omega) _, h.r.set1_14 _, h.b.setCell (by show _ ≤ Q; omega) _⟩
theorem RR14.set1 (h : RR14 w X Q b e o W) (hX : w.heap.size < X) (hXQ : X < Q) (s : ByteArray) : RR14 w X Q b e { o with a := s } (W.setCell ⟨X, 1, none⟩ (.string s)) :=
  ⟨h.z.far (by show _ ≠ X; omega) _, h.o.set1 s, h.r.far14 (by show _ ≠ X; omega) _, h.b.setCell (by show _ ≤ X; omega) _⟩
theorem RR14.set2 (h : RR14 w X Q b e o W) (hX : w.heap.size < X) (hXQ : X < Q) (s : ByteArray) : RR14 w X Q b e { o with b := s } (W.setCell ⟨X, 2, none⟩ (.string s)) :=
  ⟨h.z.far (by show _ ≠ X; omega) _, h.o.set2 s, h.r.far14 (by show _ ≠ X; omega) _, h.b.setCell (by show _ ≤ X; omega) _⟩
theorem RR14.set3 (h : RR14 w X Q b e o W) (hX : w.heap.size < X) (hXQ : X < Q) (s : UInt8) : RR14 w X Q b e { o with nd := s } (W.setCell ⟨X, 3, none⟩ (.int .u8 s.toNat)) :=
  ⟨h.z.far (by show _ ≠ X; omega) _, h.o.set3 s, h.r.far14 (by show _ ≠ X; omega) _, h.b.setCell (by show _ ≤ X; omega) _⟩
theorem RR14.set4 (h : RR14 w X Q b e o W) (hX : w.heap.size < X) (hXQ : X < Q) (s : UInt8) : RR14 w X Q b e { o with rl := s } (W.setCell ⟨X, 4, none⟩ (.int .u8 s.toNat)) :=
  ⟨h.z.far (by show _ ≠ X; omega) _, h.o.set4 s, h.r.far14 (by show _ ≠ X; omega) _, h.b.setCell (by show _ ≤ X; omega) _⟩
end
theorem box26_14 (k : UInt8) (w w2 : World)
    (hb : Below ((w.alloc (.cells #[.int .u8 0, .string ⟨#[]⟩, .string ⟨#[]⟩, .int .u8 0, .int .u8 0] 26)).alloc (.cells #[.int .u8 k.toNat, .string ⟨#[]⟩, .string ⟨#[]⟩, .int .u8 0, .int .u8 0] 26)).heap.size
      ((w.alloc (.cells #[.int .u8 0, .string ⟨#[]⟩, .string ⟨#[]⟩, .int .u8 0, .int .u8 0] 26)).alloc (.cells #[.int .u8 k.toNat, .string ⟨#[]⟩, .string ⟨#[]⟩, .int .u8 0, .int .u8 0] 26)) w2) :
    OpRt w2 w.heap.size (zero14 0) ∧ OpRt w2 (w.heap.size + 1) (zero14 k) ∧ Below w.heap.size w w2 := by
  have a0 : OpRt (w.alloc (.cells #[.int .u8 0, .string ⟨#[]⟩, .string ⟨#[]⟩, .int .u8 0, .int .u8 0] 26)) w.heap.size (zero14 0) := heap_alloc_new w _
  have b1 := alloc14 (Below.refl _ w) (.cells #[.int .u8 0, .string ⟨#[]⟩, .string ⟨#[]⟩, .int .u8 0, .int .u8 0] 26)
  have s1 : (w.alloc (.cells #[.int .u8 0, .string ⟨#[]⟩, .string ⟨#[]⟩, .int .u8 0, .int .u8 0] 26)).heap.size = w.heap.size + 1 := by simp
  generalize w.alloc (.cells #[.int .u8 0, .string ⟨#[]⟩, .string ⟨#[]⟩, .int .u8 0, .int .u8 0] 26) = w1 at *
  have a1 : OpRt (w1.alloc (.cells #[.int .u8 k.toNat, .string ⟨#[]⟩, .string ⟨#[]⟩, .int .u8 0, .int .u8 0] 26)) w1.heap.size (zero14 k) := heap_alloc_new w1 _
  have hz := alloc14 (Below.refl _ w1) (.cells #[.int .u8 k.toNat, .string ⟨#[]⟩, .string ⟨#[]⟩, .int .u8 0, .int .u8 0] 26)
  rw [s1] at a1
  exact ⟨(a0.below hz).below hb, a1.below hb, next14 (next14 b1 hz) hb⟩

theorem endS_ok14 {st : St} (h : Ok st) : (st.e = 0 ∧ st.bs = [] ∧ endS st = 0) ∨ (st.e = 0 ∧ st.bs ≠ [] ∧ endS st = 3) ∨ (st.e ≠ 0 ∧ endS st = st.e) := by
  unfold endS
  by_cases he : st.e = 0
  · by_cases hb : st.bs = []
    · exact .inl ⟨he, hb, by rw [hb]; simp [he]⟩
    · exact .inr (.inl ⟨he, hb, by rw [if_pos (List.length_pos_iff.2 hb)]⟩)
  · exact .inr (.inr ⟨he, by rw [h he]; simp⟩)

/-- What is told at the end. -/
def fin14 (b : ByteArray) (e : Int) (oo : O14) : O14 × Int := if e = 0 then (if b = ⟨#[]⟩ then (oo, 0) else (zero14 0, 3)) else (zero14 0, e)

set_option maxRecDepth 100000 in
set_option maxHeartbeats 1000000 in
theorem rread14_ab (s : ByteArray) (h0 : 0 < s.size) (w : World) (hlen : s.size ≤ 64) (hp : prt14 (s[0]).toNat = (2, true)) (b0 : ByteArray) (hex : s.extract 1 s.size = b0) (b1 b2 a c : ByteArray) (e1 e2 : Int) (HT1 : Hid (∀ W, Calls Tryd.prog 34 #[.agg #[.string b0, .int .i64 0], .int .i64 65535] W (Says14 (.tuple #[.agg #[.string b1, .int .i64 e1], .string a]) W))) (HT2 : Hid (∀ W, Calls Tryd.prog 34 #[.agg #[.string b1, .int .i64 e1], .int .i64 65535] W (Says14 (.tuple #[.agg #[.string b2, .int .i64 e2], .string c]) W))) (oo rv : O14) (re : Int) (HRV : Hid (rv = (fin14 b2 e2 oo).1)) (HRE : Hid (re = (fin14 b2 e2 oo).2)) (HOO : Hid (oo = ⟨s[0], a, c, 0, 0⟩)) :
    Calls Tryd.prog 13 #[.string s] w (Says14 (.tuple #[rv.v, .int .i64 re]) w) := by
  have HPT := Lib.hid (parts14_calls (s[0]).toNat)
  rw [hp] at HPT
  have HBX := Lib.hid (fun w2 => box26_14 (s[0]) w w2)
  obtain ⟨ne1, ne2⟩ := nonempty14 (s := s) (by intro e; subst e; exact absurd h0 (by decide))
  have d64 : decide ((s.size : Int) > 64) = false := by simp; omega
  clear hp hlen
  unfold O14.v O14.cells
  go_enter Tryd.func13, Tryd.ntmps13
  go_wp2_with fail
  with_reducible refine (HPT.out _).mono ?_
  rintro e w1 ⟨rfl, hb⟩
  obtain ⟨hz1, ho1, hb1⟩ := HBX.out w1 hb
  have hQ : w.heap.size + 1 < w1.heap.size := ho1.lt
  have hz := alloc14 (Below.refl _ w1) (.cells #[.string b0, .int .i64 0] 73)
  have HR : Hid (RR14 w (w.heap.size + 1) w1.heap.size b0 0 ⟨s[0], ⟨#[]⟩, ⟨#[]⟩, 0, 0⟩ (w1.alloc (.cells #[.string b0, .int .i64 0] 73))) := ⟨hz1.below hz, ho1.below hz, Blk2.new w1 _ _, next14 hb1 hz⟩
  clear hb hz1 ho1 hb1 hz HBX HPT
  go_wp2_with fail
  with_reducible refine (HT1.out _).mono ?_
  rintro e w2 ⟨rfl, hb⟩
  have HR2 := Lib.hid (HR.out.below hb)
  clear hb HR
  have x0 := HR2.out.z.c0
  have x1 := HR2.out.z.c1
  have x2 := HR2.out.z.c2
  have x3 := HR2.out.z.c3
  have x4 := HR2.out.z.c4
  have xf := HR2.out.z.fr
  have y0 := HR2.out.o.c0
  have y1 := HR2.out.o.c1
  have y2 := HR2.out.o.c2
  have y3 := HR2.out.o.c3
  have y4 := HR2.out.o.c4
  have yf := HR2.out.o.fr
  have r0 := HR2.out.r.c0
  have r1 := HR2.out.r.c1
  have rf := HR2.out.r.fr
  have HR3 := Lib.hid ((HR2.out.rdr (by omega) hQ b1 e1).set1 (by omega) hQ a)
  go_wp2_with fail
  with_reducible refine (HT2.out _).mono ?_
  rintro e w3 ⟨rfl, hb⟩
  have HR4 := Lib.hid (HR3.out.below hb)
  clear hb HR2 HR3 x0 x1 x2 x3 x4 xf y0 y1 y2 y3 y4 yf r0 r1 rf
  have x0 := HR4.out.z.c0
  have x1 := HR4.out.z.c1
  have x2 := HR4.out.z.c2
  have x3 := HR4.out.z.c3
  have x4 := HR4.out.z.c4
  have xf := HR4.out.z.fr
  have y0 := HR4.out.o.c0
  have y1 := HR4.out.o.c1
  have y2 := HR4.out.o.c2
  have y3 := HR4.out.o.c3
  have y4 := HR4.out.o.c4
  have yf := HR4.out.o.fr
  have r0 := HR4.out.r.c0
  have r1 := HR4.out.r.c1
  have rf := HR4.out.r.fr
  have HR5 := Lib.hid ((HR4.out.rdr (by omega) hQ b2 e2).set2 (by omega) hQ c)
  skip
  by_cases hE : e2 = 0
  · by_cases hS : b2 = ⟨#[]⟩
    · have hrv : rv = oo := by rw [HRV.out]; unfold fin14; rw [if_pos hE, if_pos hS]
      have hre : re = 0 := by rw [HRE.out]; unfold fin14; rw [if_pos hE, if_pos hS]
      subst hrv hre
      clear HRV HRE
      subst hS hE
      have hoo := HOO.out
      subst hoo
      clear HOO
      go_wp2
      exact bodyPost_ret (results_two14 Tryd.results13 _ _ w.heap.size _ _ (0, 0) _ rfl (OpRt.setAll HR5.out.z ⟨s[0], a, c, 0, 0⟩) Tryd.underlying26 rfl sizeRt14) rfl ⟨rfl, ((((HR5.out.b.setCell (Nat.le_refl _) _).setCell (Nat.le_refl _) _).setCell (Nat.le_refl _) _).setCell (Nat.le_refl _) _).setCell (Nat.le_refl _) _⟩
    · have hrv : rv = zero14 0 := by rw [HRV.out]; unfold fin14; rw [if_pos hE, if_neg hS]
      have hre : re = 3 := by rw [HRE.out]; unfold fin14; rw [if_pos hE, if_neg hS]
      subst hrv hre
      clear HRV HRE
      obtain ⟨m1, m2⟩ := nonempty14 hS
      clear hS
      subst hE
      have HR9 := Lib.hid (HR5.out.err (by omega) hQ 3)
      have r9 := HR9.out.r.c1
      go_wp2
      go_region
      all_goals
        go_wp2
        exact bodyPost_ret (results_two14 Tryd.results13 _ _ w.heap.size _ _ (0, 0) _ rfl (OpRt.drew14 (OpRt.setAll HR9.out.z (zero14 0))) Tryd.underlying26 rfl sizeRt14) rfl ⟨rfl, Below.drew (((((HR9.out.b.setCell (Nat.le_refl _) _).setCell (Nat.le_refl _) _).setCell (Nat.le_refl _) _).setCell (Nat.le_refl _) _).setCell (Nat.le_refl _) _)⟩
  · have q1 : (e2 == 0) = false := by simpa using hE
    have q2 : (e2 != 0) = true := by simpa using hE
    have hrv : rv = zero14 0 := by rw [HRV.out]; unfold fin14; rw [if_neg hE]
    have hre : re = e2 := by rw [HRE.out]; unfold fin14; rw [if_neg hE]
    subst hrv hre
    clear HRV HRE
    clear hE
    go_wp2
    go_region
    all_goals
      go_wp2
      exact bodyPost_ret (results_two14 Tryd.results13 _ _ w.heap.size _ _ (0, 0) _ rfl (OpRt.drew14 (OpRt.setAll HR5.out.z (zero14 0))) Tryd.underlying26 rfl sizeRt14) rfl ⟨rfl, Below.drew (((((HR5.out.b.setCell (Nat.le_refl _) _).setCell (Nat.le_refl _) _).setCell (Nat.le_refl _) _).setCell (Nat.le_refl _) _).setCell (Nat.le_refl _) _)⟩
set_option maxRecDepth 100000 in
set_option maxHeartbeats 1000000 in
theorem rread14_a (s : ByteArray) (h0 : 0 < s.size) (w : World) (hlen : s.size ≤ 64) (hp : prt14 (s[0]).toNat = (1, true)) (b0 : ByteArray) (hex : s.extract 1 s.size = b0) (b1 a : ByteArray) (e1 : Int) (HT1 : Hid (∀ W, Calls Tryd.prog 34 #[.agg #[.string b0, .int .i64 0], .int .i64 65535] W (Says14 (.tuple #[.agg #[.string b1, .int .i64 e1], .string a]) W))) (oo rv : O14) (re : Int) (HRV : Hid (rv = (fin14 b1 e1 oo).1)) (HRE : Hid (re = (fin14 b1 e1 oo).2)) (HOO : Hid (oo = ⟨s[0], a, ⟨#[]⟩, 0, 0⟩)) :
    Calls Tryd.prog 13 #[.string s] w (Says14 (.tuple #[rv.v, .int .i64 re]) w) := by
  have HPT := Lib.hid (parts14_calls (s[0]).toNat)
  rw [hp] at HPT
  have HBX := Lib.hid (fun w2 => box26_14 (s[0]) w w2)
  obtain ⟨ne1, ne2⟩ := nonempty14 (s := s) (by intro e; subst e; exact absurd h0 (by decide))
  have d64 : decide ((s.size : Int) > 64) = false := by simp; omega
  clear hp hlen
  unfold O14.v O14.cells
  go_enter Tryd.func13, Tryd.ntmps13
  go_wp2_with fail
  with_reducible refine (HPT.out _).mono ?_
  rintro e w1 ⟨rfl, hb⟩
  obtain ⟨hz1, ho1, hb1⟩ := HBX.out w1 hb
  have hQ : w.heap.size + 1 < w1.heap.size := ho1.lt
  have hz := alloc14 (Below.refl _ w1) (.cells #[.string b0, .int .i64 0] 73)
  have HR : Hid (RR14 w (w.heap.size + 1) w1.heap.size b0 0 ⟨s[0], ⟨#[]⟩, ⟨#[]⟩, 0, 0⟩ (w1.alloc (.cells #[.string b0, .int .i64 0] 73))) := ⟨hz1.below hz, ho1.below hz, Blk2.new w1 _ _, next14 hb1 hz⟩
  clear hb hz1 ho1 hb1 hz HBX HPT
  go_wp2_with fail
  with_reducible refine (HT1.out _).mono ?_
  rintro e w2 ⟨rfl, hb⟩
  have HR2 := Lib.hid (HR.out.below hb)
  clear hb HR
  have x0 := HR2.out.z.c0
  have x1 := HR2.out.z.c1
  have x2 := HR2.out.z.c2
  have x3 := HR2.out.z.c3
  have x4 := HR2.out.z.c4
  have xf := HR2.out.z.fr
  have y0 := HR2.out.o.c0
  have y1 := HR2.out.o.c1
  have y2 := HR2.out.o.c2
  have y3 := HR2.out.o.c3
  have y4 := HR2.out.o.c4
  have yf := HR2.out.o.fr
  have r0 := HR2.out.r.c0
  have r1 := HR2.out.r.c1
  have rf := HR2.out.r.fr
  have HR3 := Lib.hid ((HR2.out.rdr (by omega) hQ b1 e1).set1 (by omega) hQ a)
  by_cases hE : e1 = 0
  · by_cases hS : b1 = ⟨#[]⟩
    · have hrv : rv = oo := by rw [HRV.out]; unfold fin14; rw [if_pos hE, if_pos hS]
      have hre : re = 0 := by rw [HRE.out]; unfold fin14; rw [if_pos hE, if_pos hS]
      subst hrv hre
      clear HRV HRE
      subst hS hE
      have hoo := HOO.out
      subst hoo
      clear HOO
      go_wp2
      exact bodyPost_ret (results_two14 Tryd.results13 _ _ w.heap.size _ _ (0, 0) _ rfl (OpRt.setAll HR3.out.z ⟨s[0], a, ⟨#[]⟩, 0, 0⟩) Tryd.underlying26 rfl sizeRt14) rfl ⟨rfl, ((((HR3.out.b.setCell (Nat.le_refl _) _).setCell (Nat.le_refl _) _).setCell (Nat.le_refl _) _).setCell (Nat.le_refl _) _).setCell (Nat.le_refl _) _⟩
    · have hrv : rv = zero14 0 := by rw [HRV.out]; unfold fin14; rw [if_pos hE, if_neg hS]
      have hre : re = 3 := by rw [HRE.out]; unfold fin14; rw [if_pos hE, if_neg hS]
      subst hrv hre
      clear HRV HRE
      obtain ⟨m1, m2⟩ := nonempty14 hS
      clear hS
      subst hE
      have HR9 := Lib.hid (HR3.out.err (by omega) hQ 3)
      have r9 := HR9.out.r.c1
      go_wp2
      go_region
      all_goals
        go_wp2
        exact bodyPost_ret (results_two14 Tryd.results13 _ _ w.heap.size _ _ (0, 0) _ rfl (OpRt.drew14 (OpRt.setAll HR9.out.z (zero14 0))) Tryd.underlying26 rfl sizeRt14) rfl ⟨rfl, Below.drew (((((HR9.out.b.setCell (Nat.le_refl _) _).setCell (Nat.le_refl _) _).setCell (Nat.le_refl _) _).setCell (Nat.le_refl _) _).setCell (Nat.le_refl _) _)⟩
  · have q1 : (e1 == 0) = false := by simpa using hE
    have q2 : (e1 != 0) = true := by simpa using hE
    have hrv : rv = zero14 0 := by rw [HRV.out]; unfold fin14; rw [if_neg hE]
    have hre : re = e1 := by rw [HRE.out]; unfold fin14; rw [if_neg hE]
    subst hrv hre
    clear HRV HRE
    clear hE
    go_wp2
    go_region
    all_goals
      go_wp2
      exact bodyPost_ret (results_two14 Tryd.results13 _ _ w.heap.size _ _ (0, 0) _ rfl (OpRt.drew14 (OpRt.setAll HR3.out.z (zero14 0))) Tryd.underlying26 rfl sizeRt14) rfl ⟨rfl, Below.drew (((((HR3.out.b.setCell (Nat.le_refl _) _).setCell (Nat.le_refl _) _).setCell (Nat.le_refl _) _).setCell (Nat.le_refl _) _).setCell (Nat.le_refl _) _)⟩
set_option maxRecDepth 100000 in
set_option maxHeartbeats 1000000 in
theorem rread14_0 (s : ByteArray) (h0 : 0 < s.size) (w : World) (hlen : s.size ≤ 64) (hp : prt14 (s[0]).toNat = (0, true)) (b0 : ByteArray) (hex : s.extract 1 s.size = b0) (oo rv : O14) (re : Int) (HRV : Hid (rv = (fin14 b0 0 oo).1)) (HRE : Hid (re = (fin14 b0 0 oo).2)) (HOO : Hid (oo = ⟨s[0], ⟨#[]⟩, ⟨#[]⟩, 0, 0⟩)) :
    Calls Tryd.prog 13 #[.string s] w (Says14 (.tuple #[rv.v, .int .i64 re]) w) := by
  have HPT := Lib.hid (parts14_calls (s[0]).toNat)
  rw [hp] at HPT
  have HBX := Lib.hid (fun w2 => box26_14 (s[0]) w w2)
  obtain ⟨ne1, ne2⟩ := nonempty14 (s := s) (by intro e; subst e; exact absurd h0 (by decide))
  have d64 : decide ((s.size : Int) > 64) = false := by simp; omega
  clear hp hlen
  unfold O14.v O14.cells
  go_enter Tryd.func13, Tryd.ntmps13
  go_wp2_with fail
  with_reducible refine (HPT.out _).mono ?_
  rintro e w1 ⟨rfl, hb⟩
  obtain ⟨hz1, ho1, hb1⟩ := HBX.out w1 hb
  have hQ : w.heap.size + 1 < w1.heap.size := ho1.lt
  have hz := alloc14 (Below.refl _ w1) (.cells #[.string b0, .int .i64 0] 73)
  have ho1 : OpRt w1 (w.heap.size + 1) ⟨s[0], ⟨#[]⟩, ⟨#[]⟩, 0, 0⟩ := ho1
  have HZ1 := Lib.hid hz1
  have HO1 := Lib.hid ho1
  have HB1 := Lib.hid hb1
  clear hz
  have HR : ∀ e, RR14 w (w.heap.size + 1) w1.heap.size b0 e ⟨s[0], ⟨#[]⟩, ⟨#[]⟩, 0, 0⟩ (w1.alloc (.cells #[.string b0, .int .i64 e] 73)) := fun e => by
    have hz := alloc14 (Below.refl _ w1) (.cells #[.string b0, .int .i64 e] 73)
    exact ⟨HZ1.out.below hz, HO1.out.below hz, Blk2.new w1 _ _, next14 HB1.out hz⟩
  have HRR := Lib.hid HR
  clear HR
  have x0 := hz1.c0
  have x1 := hz1.c1
  have x2 := hz1.c2
  have x3 := hz1.c3
  have x4 := hz1.c4
  have xf := hz1.fr
  have y0 := ho1.c0
  have y1 := ho1.c1
  have y2 := ho1.c2
  have y3 := ho1.c3
  have y4 := ho1.c4
  have yf := ho1.fr
  have hn0 : w.heap.size < w1.heap.size := by omega
  clear hb hz1 ho1 hb1 HBX HPT
  have hE : (0 : Int) = 0 := rfl
  by_cases hS : b0 = ⟨#[]⟩
  · have hrv : rv = oo := by rw [HRV.out]; unfold fin14; rw [if_pos hE, if_pos hS]
    have hre : re = 0 := by rw [HRE.out]; unfold fin14; rw [if_pos hE, if_pos hS]
    subst hrv hre
    clear HRV HRE
    subst hS
    have hoo := HOO.out
    subst hoo
    clear HOO
    go_wp2
    exact bodyPost_ret (results_two14 Tryd.results13 _ _ w.heap.size _ _ (0, 0) _ rfl (OpRt.below (OpRt.setAll HZ1.out ⟨s[0], ⟨#[]⟩, ⟨#[]⟩, 0, 0⟩) (alloc14 (Below.refl _ _) _)) Tryd.underlying26 rfl sizeRt14) rfl ⟨rfl, next14 (((((HB1.out.setCell (Nat.le_refl _) _).setCell (Nat.le_refl _) _).setCell (Nat.le_refl _) _).setCell (Nat.le_refl _) _).setCell (Nat.le_refl _) _) (alloc14 (Below.refl _ _) _)⟩
  · have hrv : rv = zero14 0 := by rw [HRV.out]; unfold fin14; rw [if_pos hE, if_neg hS]
    have hre : re = 3 := by rw [HRE.out]; unfold fin14; rw [if_pos hE, if_neg hS]
    subst hrv hre
    clear HRV HRE
    obtain ⟨m1, m2⟩ := nonempty14 hS
    clear hS
    skip
    skip
    skip
    go_wp2
    go_region
    all_goals
      go_wp2
      exact bodyPost_ret (results_two14 Tryd.results13 _ _ w.heap.size _ _ (0, 0) _ rfl (OpRt.drew14 (OpRt.below (OpRt.setAll HZ1.out (zero14 0)) (alloc14 (Below.refl _ _) _))) Tryd.underlying26 rfl sizeRt14) rfl ⟨rfl, Below.drew (next14 (((((HB1.out.setCell (Nat.le_refl _) _).setCell (Nat.le_refl _) _).setCell (Nat.le_refl _) _).setCell (Nat.le_refl _) _).setCell (Nat.le_refl _) _) (alloc14 (Below.refl _ _) _))⟩
set_option maxRecDepth 100000 in
set_option maxHeartbeats 1000000 in
theorem rread14_no (s : ByteArray) (h0 : 0 < s.size) (w : World) (hlen : s.size ≤ 64) (hp : prt14 (s[0]).toNat = (0, false)) :
    Calls Tryd.prog 13 #[.string s] w (Says14 (.tuple #[(zero14 0).v, .int .i64 4]) w) := by
  have HPT := Lib.hid (parts14_calls (s[0]).toNat)
  rw [hp] at HPT
  have HBX := Lib.hid (fun w2 => box26_14 (s[0]) w w2)
  obtain ⟨ne1, ne2⟩ := nonempty14 (s := s) (by intro e; subst e; exact absurd h0 (by decide))
  have d64 : decide ((s.size : Int) > 64) = false := by simp; omega
  clear hp hlen
  unfold O14.v O14.cells
  go_enter Tryd.func13, Tryd.ntmps13
  go_wp2_with fail
  with_reducible refine (HPT.out _).mono ?_
  rintro e w1 ⟨rfl, hb⟩
  obtain ⟨hz1, ho1, hb1⟩ := HBX.out w1 hb
  have HZ := Lib.hid hz1
  have HB := Lib.hid hb1
  have x0 := hz1.c0
  have x1 := hz1.c1
  have x2 := hz1.c2
  have x3 := hz1.c3
  have x4 := hz1.c4
  have xf := hz1.fr
  clear hb hz1 ho1 hb1 HBX HPT
  go_wp2
  exact bodyPost_ret (results_two14 Tryd.results13 _ _ w.heap.size _ _ (0, 0) _ rfl (OpRt.setAll HZ.out (zero14 0)) Tryd.underlying26 rfl sizeRt14) rfl ⟨rfl, ((((HB.out.setCell (Nat.le_refl _) _).setCell (Nat.le_refl _) _).setCell (Nat.le_refl _) _).setCell (Nat.le_refl _) _).setCell (Nat.le_refl _) _⟩
set_option maxRecDepth 100000 in
set_option maxHeartbeats 1000000 in
theorem rread14_empty (w : World) :
    Calls Tryd.prog 13 #[.string ⟨#[]⟩] w (Says14 (.tuple #[(zero14 0).v, .int .i64 2]) w) := by
  have HZ : Hid (OpRt (w.alloc (.cells #[.int .u8 0, .string ⟨#[]⟩, .string ⟨#[]⟩, .int .u8 0, .int .u8 0] 26)) w.heap.size (zero14 0)) := heap_alloc_new w _
  have HB := Lib.hid (alloc14 (Below.refl _ w) (.cells #[.int .u8 0, .string ⟨#[]⟩, .string ⟨#[]⟩, .int .u8 0, .int .u8 0] 26))
  unfold O14.v O14.cells
  go_enter Tryd.func13, Tryd.ntmps13
  go_wp2
  exact bodyPost_ret (results_two14 Tryd.results13 _ _ w.heap.size _ _ (0, 0) _ rfl HZ.out Tryd.underlying26 rfl sizeRt14) rfl ⟨rfl, HB.out⟩
set_option maxRecDepth 100000 in
set_option maxHeartbeats 1000000 in
theorem rread14_long (w : World) (s : ByteArray) (hlen : 64 < s.size) :
    Calls Tryd.prog 13 #[.string s] w (Says14 (.tuple #[(zero14 0).v, .int .i64 3]) w) := by
  have HZ : Hid (OpRt (w.alloc (.cells #[.int .u8 0, .string ⟨#[]⟩, .string ⟨#[]⟩, .int .u8 0, .int .u8 0] 26)) w.heap.size (zero14 0)) := heap_alloc_new w _
  have HB := Lib.hid (alloc14 (Below.refl _ w) (.cells #[.int .u8 0, .string ⟨#[]⟩, .string ⟨#[]⟩, .int .u8 0, .int .u8 0] 26))
  have d64 : decide ((s.size : Int) > 64) = true := by simp; omega
  clear hlen
  unfold O14.v O14.cells
  go_enter Tryd.func13, Tryd.ntmps13
  go_wp2
  exact bodyPost_ret (results_two14 Tryd.results13 _ _ w.heap.size _ _ (0, 0) _ rfl HZ.out Tryd.underlying26 rfl sizeRt14) rfl ⟨rfl, HB.out⟩
theorem RR14.farT {w W : World} {X Q T : Nat} {b : ByteArray} {e : Int} {o : O14} (h : RR14 w X Q b e o W) (hn : w.heap.size < T) (hX : X < T) (hQ : Q < T) (u v : Value) : RR14 w X Q b e o ((W.setCell ⟨T, 0, none⟩ u).setCell ⟨T, 1, none⟩ v) :=
  ⟨(h.z.far (by show _ ≠ T; omega) _).far (by show _ ≠ T; omega) _, (h.o.far (by show _ ≠ T; omega) _).far (by show _ ≠ T; omega) _, (h.r.far14 (by show _ ≠ T; omega) _).far14 (by show _ ≠ T; omega) _, (h.b.setCell (by show _ ≤ T; omega) _).setCell (by show _ ≤ T; omega) _⟩
set_option maxRecDepth 100000 in
set_option maxHeartbeats 4000000 in
theorem rread14_nr (s : ByteArray) (h0 : 0 < s.size) (w : World) (hlen : s.size ≤ 64) (hp : prt14 (s[0]).toNat = (-1, true)) (b0 : ByteArray) (hex : s.extract 1 s.size = b0) (b1 b2 bm b3 b4 bz : ByteArray) (e1 e2 em e3 e4 ez : Int) (x y : UInt8) (HG1 : Hid (∀ W, Calls Tryd.prog 35 #[.agg #[.string b0, .int .i64 0], .int .i64 1] W (Says14 (.tuple #[.agg #[.string b1, .int .i64 e1], .int .u64 x.toNat]) W))) (HF1 : Hid (∀ W, Calls Tryd.prog 36 #[.agg #[.string b1, .int .i64 e1], .int .i64 4] W (Says14 (.agg #[.string b2, .int .i64 e2]) W))) (Hbm : (6 < x.toNat ∧ bm = b2 ∧ em = e2) ∨ (x.toNat ≤ 6 ∧ bm = b1 ∧ em = e1)) (HG2 : Hid (∀ W, Calls Tryd.prog 35 #[.agg #[.string bm, .int .i64 em], .int .i64 1] W (Says14 (.tuple #[.agg #[.string b3, .int .i64 e3], .int .u64 y.toNat]) W))) (HF2 : Hid (∀ W, Calls Tryd.prog 36 #[.agg #[.string b3, .int .i64 e3], .int .i64 4] W (Says14 (.agg #[.string b4, .int .i64 e4]) W))) (hk3 : em ≠ 0 → e3 ≠ 0) (hk4 : e4 ≠ 0) (Hz : (em = 0 ∧ e3 = 0 ∧ (y.toNat < 1 ∨ 3 < y.toNat) ∧ bz = b4 ∧ ez = e4) ∨ (¬ (em = 0 ∧ e3 = 0 ∧ (y.toNat < 1 ∨ 3 < y.toNat)) ∧ bz = b3 ∧ ez = e3)) (oo rv : O14) (re : Int) (HRV : Hid (rv = (fin14 bz ez oo).1)) (HRE : Hid (re = (fin14 bz ez oo).2)) (HOO : Hid (oo = ⟨s[0], ⟨#[]⟩, ⟨#[]⟩, x, y⟩)) :
    Calls Tryd.prog 13 #[.string s] w (Says14 (.tuple #[rv.v, .int .i64 re]) w) := by
  have HBM := Lib.hid Hbm
  have HHZ := Lib.hid Hz
  have HK3 := Lib.hid hk3
  have HK4 := Lib.hid hk4
  have hxw : (x.toNat : Int) % 256 = x.toNat := by have := x.toNat_lt; omega
  have hyw : (y.toNat : Int) % 256 = y.toNat := by have := y.toNat_lt; omega
  clear Hbm Hz hk3 hk4
  have HPT := Lib.hid (parts14_calls (s[0]).toNat)
  rw [hp] at HPT
  have HBX := Lib.hid (fun w2 => box26_14 (s[0]) w w2)
  obtain ⟨ne1, ne2⟩ := nonempty14 (s := s) (by intro e; subst e; exact absurd h0 (by decide))
  have d64 : decide ((s.size : Int) > 64) = false := by simp; omega
  clear hp hlen
  unfold O14.v O14.cells
  go_enter Tryd.func13, Tryd.ntmps13
  go_wp2_with fail
  with_reducible refine (HPT.out _).mono ?_
  rintro e w1 ⟨rfl, hb⟩
  obtain ⟨hz1, ho1, hb1⟩ := HBX.out w1 hb
  have hQ : w.heap.size + 1 < w1.heap.size := ho1.lt
  have hz := alloc14 (Below.refl _ w1) (.cells #[.string b0, .int .i64 0] 73)
  have HR : Hid (RR14 w (w.heap.size + 1) w1.heap.size b0 0 ⟨s[0], ⟨#[]⟩, ⟨#[]⟩, 0, 0⟩ (w1.alloc (.cells #[.string b0, .int .i64 0] 73))) := ⟨hz1.below hz, ho1.below hz, Blk2.new w1 _ _, next14 hb1 hz⟩
  clear hb hz1 ho1 hb1 hz HBX HPT
  go_wp2_with fail
  with_reducible refine (HG1.out _).mono ?_
  rintro e w2 ⟨rfl, hb⟩
  have HR2 := Lib.hid (HR.out.below hb)
  clear hb HR
  have hT : w1.heap.size < w2.heap.size := HR2.out.r.lt
  have hz := alloc14 (Below.refl _ w2) (.cells #[.string b1, .int .i64 e1] 73)
  have HR3 := Lib.hid (HR2.out.below hz)
  have HT3 : Hid (Blk2 (w2.alloc (.cells #[.string b1, .int .i64 e1] 73)) w2.heap.size (.string b1) (.int .i64 e1)) := Blk2.new w2 _ _
  clear hz HR2
  rcases HBM.out with ⟨hx, rfl, rfl⟩ | ⟨hx, rfl, rfl⟩
  case' inl =>
    have d6 : decide ((x.toNat : Int) > 6) = true := by simp; omega
    clear hx
    go_wp2_with fail
    with_reducible refine (HF1.out _).mono ?_
    rintro e w4 ⟨rfl, hb⟩
    have HR4 := Lib.hid (HR3.out.below hb)
    have HT4 := Lib.hid (HT3.out.still (turns14 hb))
    clear hb HR3 HT3
    have t0 := HT4.out.c0
    have t1 := HT4.out.c1
    have tf := HT4.out.fr
    have HR5 := Lib.hid (HR4.out.farT (T := w2.heap.size) (by omega) (by omega) (by omega) (.string bm) (.int .i64 em))
    have HT5 : Hid (Blk2 ((w4.setCell ⟨w2.heap.size, 0, none⟩ (.string bm)).setCell ⟨w2.heap.size, 1, none⟩ (.int .i64 em)) w2.heap.size (.string bm) (.int .i64 em)) := HT4.out.set
    clear HR4 HT4
    go_wp2_with fail
    generalize (w4.setCell ⟨w2.heap.size, 0, none⟩ (.string bm)).setCell ⟨w2.heap.size, 1, none⟩ (.int .i64 em) = W5 at *
    clear t0 t1 tf
  case' inr =>
    have d6 : decide ((x.toNat : Int) > 6) = false := by simp; omega
    clear hx
    go_wp2_with fail
    have HR5 := HR3
    have HT5 := HT3
    clear HR3 HT3
    generalize w2.alloc (.cells #[.string bm, .int .i64 em] 73) = W5 at *
  all_goals
    generalize w2.heap.size = T at *
    with_reducible refine (HG2.out _).mono ?_
    rintro e w6 ⟨rfl, hb⟩
    have HR6 := Lib.hid (HR5.out.below hb)
    have HT6 := Lib.hid (HT5.out.still (turns14 hb))
    clear hb HR5 HT5
    have x0 := HR6.out.z.c0
    have x1 := HR6.out.z.c1
    have x2 := HR6.out.z.c2
    have x3 := HR6.out.z.c3
    have x4 := HR6.out.z.c4
    have xf := HR6.out.z.fr
    have y0 := HR6.out.o.c0
    have y1 := HR6.out.o.c1
    have y2 := HR6.out.o.c2
    have y3 := HR6.out.o.c3
    have y4 := HR6.out.o.c4
    have yf := HR6.out.o.fr
    have r0 := HR6.out.r.c0
    have r1 := HR6.out.r.c1
    have rf := HR6.out.r.fr
    have t0 := HT6.out.c0
    have t1 := HT6.out.c1
    have tf := HT6.out.fr
    by_cases hM : em = 0
    case neg =>
      have g1 : (em == 0) = false := by simpa using hM
      have hz : bz = b3 ∧ ez = e3 := by
        rcases HHZ.out with ⟨k1, k2, k3, k4, k5⟩ | ⟨k1, k2, k3⟩
        · exact absurd k1 hM
        · exact ⟨k2, k3⟩
      obtain ⟨hzb, hze⟩ := hz
      subst hzb hze
      clear HHZ HF2
      have hE : ¬ ez = 0 := HK3.out hM
      have HRN := Lib.hid ((((HR6.out.farT (T := T) (by omega) (by omega) (by omega) (.string bz) (.int .i64 ez)).rdr (by omega) hQ bz ez).set3 (by omega) hQ x).set4 (by omega) hQ y)
      clear hM HK3
      have q1 : (ez == 0) = false := by simpa using hE
      have q2 : (ez != 0) = true := by simpa using hE
      have hrv : rv = zero14 0 := by rw [HRV.out]; unfold fin14; rw [if_neg hE]
      have hre : re = ez := by rw [HRE.out]; unfold fin14; rw [if_neg hE]
      subst hrv hre
      clear HRV HRE
      clear hE
      go_wp2
      go_region
      all_goals
        go_wp2
        exact bodyPost_ret (results_two14 Tryd.results13 _ _ w.heap.size _ _ (0, 0) _ rfl (OpRt.drew14 (OpRt.setAll HRN.out.z (zero14 0))) Tryd.underlying26 rfl sizeRt14) rfl ⟨rfl, Below.drew (((((HRN.out.b.setCell (Nat.le_refl _) _).setCell (Nat.le_refl _) _).setCell (Nat.le_refl _) _).setCell (Nat.le_refl _) _).setCell (Nat.le_refl _) _)⟩
    subst hM
    by_cases h3 : e3 = 0
    case neg =>
      have g2 : (e3 == 0) = false := by simpa using h3
      have hz : bz = b3 ∧ ez = e3 := by
        rcases HHZ.out with ⟨k1, k2, k3, k4, k5⟩ | ⟨k1, k2, k3⟩
        · exact absurd k2 h3
        · exact ⟨k2, k3⟩
      obtain ⟨hzb, hze⟩ := hz
      subst hzb hze
      clear HHZ HF2
      have hE : ¬ ez = 0 := h3
      have HRN := Lib.hid ((((HR6.out.farT (T := T) (by omega) (by omega) (by omega) (.string bz) (.int .i64 ez)).rdr (by omega) hQ bz ez).set3 (by omega) hQ x).set4 (by omega) hQ y)
      clear h3 HK3
      have q1 : (ez == 0) = false := by simpa using hE
      have q2 : (ez != 0) = true := by simpa using hE
      have hrv : rv = zero14 0 := by rw [HRV.out]; unfold fin14; rw [if_neg hE]
      have hre : re = ez := by rw [HRE.out]; unfold fin14; rw [if_neg hE]
      subst hrv hre
      clear HRV HRE
      clear hE
      go_wp2
      go_region
      all_goals
        go_wp2
        exact bodyPost_ret (results_two14 Tryd.results13 _ _ w.heap.size _ _ (0, 0) _ rfl (OpRt.drew14 (OpRt.setAll HRN.out.z (zero14 0))) Tryd.underlying26 rfl sizeRt14) rfl ⟨rfl, Below.drew (((((HRN.out.b.setCell (Nat.le_refl _) _).setCell (Nat.le_refl _) _).setCell (Nat.le_refl _) _).setCell (Nat.le_refl _) _).setCell (Nat.le_refl _) _)⟩
    have HE0 := Lib.hid h3
    clear h3
    by_cases h1y : y.toNat < 1
    · have g3 : decide ((y.toNat : Int) < 1) = true := by simp; omega
      have hz : bz = b4 ∧ ez = e4 := by
        rcases HHZ.out with ⟨_, _, _, h4, h5⟩ | ⟨h1, _, _⟩
        · exact ⟨h4, h5⟩
        · exact absurd ⟨rfl, HE0.out, .inl h1y⟩ h1
      obtain ⟨hzb, hze⟩ := hz
      subst hzb hze
      clear HHZ HK3
      have hE : ¬ ez = 0 := HK4.out
      have HR7 := Lib.hid (HR6.out.farT (T := T) (by omega) (by omega) (by omega) (.string b3) (.int .i64 e3))
      have HT7 : Hid (Blk2 ((w6.setCell ⟨T, 0, none⟩ (.string b3)).setCell ⟨T, 1, none⟩ (.int .i64 e3)) T (.string b3) (.int .i64 e3)) := HT6.out.set
      have he3 := HE0.out
      subst he3
      go_wp2_with fail
      with_reducible refine (HF2.out _).mono ?_
      rintro e w7 ⟨rfl, hb⟩
      have HR8 := Lib.hid (HR7.out.below hb)
      have HT8 := Lib.hid (HT7.out.still (turns14 hb))
      clear hb HR6 HT6 HR7 HT7 x0 x1 x2 x3 x4 xf y0 y1 y2 y3 y4 yf r0 r1 rf t0 t1 tf
      have x0 := HR8.out.z.c0
      have x1 := HR8.out.z.c1
      have x2 := HR8.out.z.c2
      have x3 := HR8.out.z.c3
      have x4 := HR8.out.z.c4
      have xf := HR8.out.z.fr
      have y0 := HR8.out.o.c0
      have y1 := HR8.out.o.c1
      have y2 := HR8.out.o.c2
      have y3 := HR8.out.o.c3
      have y4 := HR8.out.o.c4
      have yf := HR8.out.o.fr
      have r0 := HR8.out.r.c0
      have r1 := HR8.out.r.c1
      have rf := HR8.out.r.fr
      have t0 := HT8.out.c0
      have t1 := HT8.out.c1
      have tf := HT8.out.fr
      have HRN := Lib.hid ((((HR8.out.farT (T := T) (by omega) (by omega) (by omega) (.string bz) (.int .i64 ez)).rdr (by omega) hQ bz ez).set3 (by omega) hQ x).set4 (by omega) hQ y)
      have q1 : (ez == 0) = false := by simpa using hE
      have q2 : (ez != 0) = true := by simpa using hE
      have hrv : rv = zero14 0 := by rw [HRV.out]; unfold fin14; rw [if_neg hE]
      have hre : re = ez := by rw [HRE.out]; unfold fin14; rw [if_neg hE]
      subst hrv hre
      clear HRV HRE
      clear hE
      go_wp2
      go_region
      all_goals
        go_wp2
        exact bodyPost_ret (results_two14 Tryd.results13 _ _ w.heap.size _ _ (0, 0) _ rfl (OpRt.drew14 (OpRt.setAll HRN.out.z (zero14 0))) Tryd.underlying26 rfl sizeRt14) rfl ⟨rfl, Below.drew (((((HRN.out.b.setCell (Nat.le_refl _) _).setCell (Nat.le_refl _) _).setCell (Nat.le_refl _) _).setCell (Nat.le_refl _) _).setCell (Nat.le_refl _) _)⟩
    by_cases h3y : 3 < y.toNat
    · have g3 : decide ((y.toNat : Int) < 1) = false := by simp; omega
      have g4 : decide ((y.toNat : Int) > 3) = true := by simp; omega
      have hz : bz = b4 ∧ ez = e4 := by
        rcases HHZ.out with ⟨_, _, _, h4, h5⟩ | ⟨h1, _, _⟩
        · exact ⟨h4, h5⟩
        · exact absurd ⟨rfl, HE0.out, .inr h3y⟩ h1
      obtain ⟨hzb, hze⟩ := hz
      subst hzb hze
      clear HHZ HK3
      have hE : ¬ ez = 0 := HK4.out
      have HR7 := Lib.hid (HR6.out.farT (T := T) (by omega) (by omega) (by omega) (.string b3) (.int .i64 e3))
      have HT7 : Hid (Blk2 ((w6.setCell ⟨T, 0, none⟩ (.string b3)).setCell ⟨T, 1, none⟩ (.int .i64 e3)) T (.string b3) (.int .i64 e3)) := HT6.out.set
      have he3 := HE0.out
      subst he3
      go_wp2_with fail
      with_reducible refine (HF2.out _).mono ?_
      rintro e w7 ⟨rfl, hb⟩
      have HR8 := Lib.hid (HR7.out.below hb)
      have HT8 := Lib.hid (HT7.out.still (turns14 hb))
      clear hb HR6 HT6 HR7 HT7 x0 x1 x2 x3 x4 xf y0 y1 y2 y3 y4 yf r0 r1 rf t0 t1 tf
      have x0 := HR8.out.z.c0
      have x1 := HR8.out.z.c1
      have x2 := HR8.out.z.c2
      have x3 := HR8.out.z.c3
      have x4 := HR8.out.z.c4
      have xf := HR8.out.z.fr
      have y0 := HR8.out.o.c0
      have y1 := HR8.out.o.c1
      have y2 := HR8.out.o.c2
      have y3 := HR8.out.o.c3
      have y4 := HR8.out.o.c4
      have yf := HR8.out.o.fr
      have r0 := HR8.out.r.c0
      have r1 := HR8.out.r.c1
      have rf := HR8.out.r.fr
      have t0 := HT8.out.c0
      have t1 := HT8.out.c1
      have tf := HT8.out.fr
      have HRN := Lib.hid ((((HR8.out.farT (T := T) (by omega) (by omega) (by omega) (.string bz) (.int .i64 ez)).rdr (by omega) hQ bz ez).set3 (by omega) hQ x).set4 (by omega) hQ y)
      have q1 : (ez == 0) = false := by simpa using hE
      have q2 : (ez != 0) = true := by simpa using hE
      have hrv : rv = zero14 0 := by rw [HRV.out]; unfold fin14; rw [if_neg hE]
      have hre : re = ez := by rw [HRE.out]; unfold fin14; rw [if_neg hE]
      subst hrv hre
      clear HRV HRE
      clear hE
      go_wp2
      go_region
      all_goals
        go_wp2
        exact bodyPost_ret (results_two14 Tryd.results13 _ _ w.heap.size _ _ (0, 0) _ rfl (OpRt.drew14 (OpRt.setAll HRN.out.z (zero14 0))) Tryd.underlying26 rfl sizeRt14) rfl ⟨rfl, Below.drew (((((HRN.out.b.setCell (Nat.le_refl _) _).setCell (Nat.le_refl _) _).setCell (Nat.le_refl _) _).setCell (Nat.le_refl _) _).setCell (Nat.le_refl _) _)⟩
    have g3 : decide ((y.toNat : Int) < 1) = false := by simp; omega
    have g4 : decide ((y.toNat : Int) > 3) = false := by simp; omega
    have hz : bz = b3 ∧ ez = e3 := by
      rcases HHZ.out with ⟨k1, k2, k3, k4, k5⟩ | ⟨k1, k2, k3⟩
      · exact absurd k3 (by omega)
      · exact ⟨k2, k3⟩
    obtain ⟨hzb, hze⟩ := hz
    subst hzb hze
    clear HHZ HF2
    have HRN := Lib.hid ((((HR6.out.farT (T := T) (by omega) (by omega) (by omega) (.string bz) (.int .i64 ez)).rdr (by omega) hQ bz ez).set3 (by omega) hQ x).set4 (by omega) hQ y)
    clear h1y h3y HK3
    have hE : ez = 0 := HE0.out
    by_cases hS : bz = ⟨#[]⟩
    · have hrv : rv = oo := by rw [HRV.out]; unfold fin14; rw [if_pos hE, if_pos hS]
      have hre : re = 0 := by rw [HRE.out]; unfold fin14; rw [if_pos hE, if_pos hS]
      subst hrv hre
      clear HRV HRE
      subst hS hE
      have hoo := HOO.out
      subst hoo
      clear HOO
      go_wp2
      exact bodyPost_ret (results_two14 Tryd.results13 _ _ w.heap.size _ _ (0, 0) _ rfl (OpRt.setAll HRN.out.z ⟨s[0], ⟨#[]⟩, ⟨#[]⟩, x, y⟩) Tryd.underlying26 rfl sizeRt14) rfl ⟨rfl, ((((HRN.out.b.setCell (Nat.le_refl _) _).setCell (Nat.le_refl _) _).setCell (Nat.le_refl _) _).setCell (Nat.le_refl _) _).setCell (Nat.le_refl _) _⟩
    · have hrv : rv = zero14 0 := by rw [HRV.out]; unfold fin14; rw [if_pos hE, if_neg hS]
      have hre : re = 3 := by rw [HRE.out]; unfold fin14; rw [if_pos hE, if_neg hS]
      subst hrv hre
      clear HRV HRE
      obtain ⟨m1, m2⟩ := nonempty14 hS
      clear hS
      subst hE
      have HR9 := Lib.hid (HRN.out.err (by omega) hQ 3)
      have r9 := HR9.out.r.c1
      go_wp2
      go_region
      all_goals
        go_wp2
        exact bodyPost_ret (results_two14 Tryd.results13 _ _ w.heap.size _ _ (0, 0) _ rfl (OpRt.drew14 (OpRt.setAll HR9.out.z (zero14 0))) Tryd.underlying26 rfl sizeRt14) rfl ⟨rfl, Below.drew (((((HR9.out.b.setCell (Nat.le_refl _) _).setCell (Nat.le_refl _) _).setCell (Nat.le_refl _) _).setCell (Nat.le_refl _) _).setCell (Nat.le_refl _) _)⟩
end Go.Proofs.YtacmjmfdhegojaaDoor
