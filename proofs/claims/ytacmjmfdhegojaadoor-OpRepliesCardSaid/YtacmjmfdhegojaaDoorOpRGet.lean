/-
  The document's Get of a reply tells what the code's tells.
  Conditions: bytes of at most 1000.
-/
import Derived.Test.YtacmjmfdhegojaaDoorOpGet
import Derived.Test.YtacmjmfdhegojaaDoorOpRefA
namespace Go.Proofs.YtacmjmfdhegojaaDoor
open Go.RowKit

/-- A reply lies at block B, as the document has it. -/
def RqAt (w : World) (B : Nat) (e : Int) (v : Value) : Prop := w.heap[B]? = some (.cells #[.int .i64 e, v] 46 (0, 0))
section
variable {w w' : World} {B : Nat} {e : Int} {v : Value}
theorem RqAt.lt (h : RqAt w B e v) : B < w.heap.size := (Array.getElem?_eq_some_iff.1 h).1
theorem RqAt.c0 (h : RqAt w B e v) : w.cell? ⟨B, 0, none⟩ = some (.int .i64 e) := by rw [cell_of_row w B 0 _ _ (0, 0) h]; rfl
theorem RqAt.c1 (h : RqAt w B e v) : w.cell? ⟨B, 1, none⟩ = some v := by rw [cell_of_row w B 1 _ _ (0, 0) h]; rfl
theorem RqAt.fr (h : RqAt w B e v) (i : Nat) : w.frozen? ⟨B, i, none⟩ = false := by unfold RqAt at h; simp [World.frozen?, h]
theorem RqAt.later (h : RqAt w B e v) {n : Nat} (hn : B < n) (hb : Below n w w') : RqAt w' B e v := (hb.block B hn).trans h
theorem RqAt.below (h : RqAt w B e v) (hb : Below w.heap.size w w') : RqAt w' B e v := h.later h.lt hb
theorem RqAt.turns {S : Nat → Prop} (h : RqAt w B e v) (ht : Turns S w w') (hn : ¬ S B) : RqAt w' B e v := (ht.block B h.lt hn).trans h
theorem RqAt.far (h : RqAt w B e v) {p : Addr} (hp : B ≠ p.block) (u : Value) : RqAt (w.setCell p u) B e v := (Below.heap_setCell w p u B hp).trans h
theorem RqAt.set1 (h : RqAt w B e v) (u : Value) : RqAt (w.setCell ⟨B, 1, none⟩ u) B e u := by
  unfold RqAt at h ⊢; simp [World.setCell, Array.getElem?_modify, h]
theorem RqAt.setAll (h : RqAt w B e v) (e' : Int) (u : Value) : RqAt ((w.setCell ⟨B, 0, none⟩ (.int .i64 e')).setCell ⟨B, 1, none⟩ u) B e' u := by
  unfold RqAt at h ⊢; simp [World.setCell, Array.getElem?_modify, h]
end

theorem sizeRq14 : (Tryd.prog.info? 46).map (·.size) = some 2 := by kernel_rfl
theorem rowGo_keep14 (long : Int) : ∀ (k : Nat) {st : St} (acc : List ByteArray), st.e ≠ 0 → (rowGo long k st acc).1.e = st.e
  | 0, _, _, _ => rfl
  | k + 1, st, acc, h => by
    have h1 := textS_keep14 long h
    unfold rowGo
    rw [if_pos (by rw [h1]; exact h)]
    exact h1
theorem rowS_keep14 {st : St} (m l : Int) (h : st.e ≠ 0) : (rowS st m l).1.e = st.e := by
  have h1 := lengthS_keep14 m h
  unfold rowS
  rw [rowGo_keep14 l _ _ (by rw [h1]; exact h), h1]
theorem ok_gs2_14 (bs : List UInt8) : Ok (gs2_14 bs) := by
  have o1 := (ok0_14 bs).num 1
  unfold gs2_14
  split
  · exact o1.fail 4
  · exact o1
theorem ok_gs4_14 (bs : List UInt8) : Ok (gs4_14 bs) := by
  have o3 := (ok_gs2_14 bs).row 400 400
  unfold gs4_14
  split
  · exact o3.fail 4
  · exact o3
theorem gre_big14 {bs : List UInt8} (h : 18 < gk14 bs) : gre14 bs = 4 := by
  have hz : (numS ⟨bs, 0⟩ 1).1.e = 0 := Classical.byContradiction fun he => by
    have := numS_zero (ok0_14 bs) 1 he
    unfold gk14 at h
    omega
  have h2 : gs2_14 bs = ⟨[], 4⟩ := by
    have e2 : gs2_14 bs = failS (numS ⟨bs, 0⟩ 1).1 4 := if_pos h
    rw [e2, failS_zero hz 4 (by decide)]
  have h3 : (rowS (gs2_14 bs) 400 400).1.e = 4 := by rw [h2]; exact rowS_keep14 400 400 (by decide)
  have h4 : (gs4_14 bs).e = 4 := by
    unfold gs4_14
    split
    · rw [failS_keep14 4 (by rw [h3]; decide)]; exact h3
    · exact h3
  rcases endS_ok14 (ok_gs4_14 bs) with ⟨h5, _⟩ | ⟨h5, _⟩ | ⟨_, h5⟩
  · rw [h4] at h5; cases h5
  · rw [h4] at h5; cases h5
  · exact h5.trans h4
/-- What the document's Get tells. -/
def RGot14 (w : World) (bs : List UInt8) (e : Ending) (w' : World) : Prop :=
  (gre14 bs ≠ 0 ∧ e = .returned (.tuple #[.agg #[.int .i64 0, .slice none 0 0], .int .i64 (gre14 bs)]) ∧ Below w.heap.size w w') ∨
  (gre14 bs = 0 ∧ ∃ A c, e = .returned (.tuple #[.agg #[.int .i64 (gk14 bs), .slice A (gss14 bs).length c], .int .i64 0]) ∧ RdS w' A (gss14 bs) ∧ Below w.heap.size w w')
/-- The document's Get under way, behind the row. -/
structure RGr14 (w : World) (Q : Nat) (b : ByteArray) (e : Int) (A : Option Addr) (ss : List ByteArray) (W : World) : Prop where
  z : RqAt W w.heap.size 0 (.slice none 0 0)
  r : Blk2 W Q (.string b) (.int .i64 e)
  s : RdS W A ss
  n : ∀ a : Addr, A = some a → Q < a.block
  b : Below w.heap.size w W
section
variable {w W W' : World} {Q : Nat} {b : ByteArray} {e : Int} {A : Option Addr} {ss : List ByteArray}
theorem RGr14.below (h : RGr14 w Q b e A ss W) (hb : Below W.heap.size W W') : RGr14 w Q b e A ss W' :=
  ⟨h.z.below hb, h.r.still (turns14 hb), h.s.later14 hb, h.n, next14 h.b hb⟩
theorem RdS.far14 (h : RdS W A ss) (p : Addr) (hn : ∀ a : Addr, A = some a → p.block < a.block) (u : Value) : RdS (W.setCell p u) A ss :=
  h.turns ((Turns.refl (fun i => i = p.block) W).setCell (p := p) (fun _ => rfl) u) (fun _ a ha he => by have := hn a ha; omega)
theorem RGr14.rdr (h : RGr14 w Q b e A ss W) (hQ : w.heap.size < Q) (b' : ByteArray) (e' : Int) : RGr14 w Q b' e' A ss ((W.setCell ⟨Q, 0, none⟩ (.string b')).setCell ⟨Q, 1, none⟩ (.int .i64 e')) :=
  ⟨(h.z.far (by show _ ≠ Q; omega) _).far (by show _ ≠ Q; omega) _, h.r.set, (h.s.far14 ⟨Q, 0, none⟩ h.n _).far14 ⟨Q, 1, none⟩ h.n _, h.n, (h.b.setCell (by show _ ≤ Q; omega) _).setCell (by show _ ≤ Q; omega) _⟩
theorem RGr14.err (h : RGr14 w Q b e A ss W) (hQ : w.heap.size < Q) (e' : Int) : RGr14 w Q b e' A ss (W.setCell ⟨Q, 1, none⟩ (.int .i64 e')) :=
  ⟨h.z.far (by show _ ≠ Q; omega) _, h.r.set1_14 _, h.s.far14 ⟨Q, 1, none⟩ h.n _, h.n, h.b.setCell (by show _ ≤ Q; omega) _⟩
theorem RqAt.drew14 {B : Nat} {v : Value} (h : RqAt W B e v) : RqAt W.drew B e v := h
end
theorem box46_14 (w w2 : World) (hb : Below (w.alloc (.cells #[.int .i64 0, .slice none 0 0] 46)).heap.size (w.alloc (.cells #[.int .i64 0, .slice none 0 0] 46)) w2) :
    RqAt w2 w.heap.size 0 (.slice none 0 0) ∧ Below w.heap.size w w2 := by
  have a0 : RqAt (w.alloc (.cells #[.int .i64 0, .slice none 0 0] 46)) w.heap.size 0 (.slice none 0 0) := heap_alloc_new w _
  exact ⟨a0.below hb, next14 (alloc14 (Below.refl _ w) _) hb⟩

set_option maxRecDepth 100000 in
set_option maxHeartbeats 1000000 in
theorem rGet14_calls (bs : List UInt8) (w : World) (hl : bs.length ≤ 1000) : Calls Tryd.prog 19 #[.string (tx14 bs)] w (RGot14 w bs) := by
  obtain ⟨k, hk⟩ : ∃ k, k = gk14 bs := ⟨_, rfl⟩
  have hk256 : k < 256 := by rw [hk]; exact numS_lt _ 1
  have HG1 : Hid (∀ W, Calls Tryd.prog 35 #[.agg #[.string (tx14 bs), .int .i64 0], .int .i64 1] W (Says14 (.tuple #[.agg #[.string (tx14 (numS ⟨bs, 0⟩ 1).1.bs), .int .i64 (numS ⟨bs, 0⟩ 1).1.e], .int .u64 k]) W)) := fun W => by
    rw [hk]
    exact (get_calls ⟨bs, 0⟩ 1 1 W (ok0_14 bs) (by show bs.length ≤ _; omega) rfl (by omega)).mono fun _ _ ⟨he, ht⟩ => ⟨he, still14 ht⟩
  have HBX := Lib.hid (fun w2 => box46_14 w w2)
  have hbig := gre_big14 (bs := bs)
  rw [← hk] at hbig
  have hgs4 : ¬ 18 < k → gs4_14 bs = if k ≠ 0 ∧ gss14 bs ≠ [] then failS (rowS (numS ⟨bs, 0⟩ 1).1 400 400).1 4 else (rowS (numS ⟨bs, 0⟩ 1).1 400 400).1 := fun h => by
    rw [hk] at h ⊢
    have e2 : gs2_14 bs = (numS ⟨bs, 0⟩ 1).1 := if_neg h
    unfold gs4_14
    rw [e2]
  have HRW : Hid (¬ 18 < k → ∀ W, Calls Tryd.prog 45 #[.agg #[.string (tx14 (numS ⟨bs, 0⟩ 1).1.bs), .int .i64 (numS ⟨bs, 0⟩ 1).1.e], .int .i64 400, .int .i64 400] W fun e w' => ∃ A c, e = .returned (.tuple #[.agg #[.string (tx14 (rowS (numS ⟨bs, 0⟩ 1).1 400 400).1.bs), .int .i64 (rowS (numS ⟨bs, 0⟩ 1).1 400 400).1.e], .slice A (gss14 bs).length c]) ∧ RdS w' A (gss14 bs) ∧ (∀ a : Addr, A = some a → W.heap.size ≤ a.block) ∧ Below W.heap.size W w') := fun h W => by
    have e2 : gs2_14 bs = (numS ⟨bs, 0⟩ 1).1 := if_neg (by rw [hk] at h; exact h)
    have e3 : gss14 bs = (rowS (numS ⟨bs, 0⟩ 1).1 400 400).2 := by unfold gss14; rw [e2]
    rw [e3]
    refine (getrow6_calls (numS ⟨bs, 0⟩ 1).1 400 400 W ((ok0_14 bs).num 1) (by have := numS_left ⟨bs, 0⟩ 1; have e : (⟨bs, 0⟩ : St).bs.length = bs.length := rfl; omega)).mono ?_
    rintro e w' ⟨A, c, he, ho, hf, ht⟩
    exact ⟨A, c, he, rds_of_own ho, fun a ha => hf a.block (by rw [ha]; rfl), still14 ht⟩
  have HFL : Hid (∀ W, Calls Tryd.prog 36 #[.agg #[.string (tx14 (rowS (numS ⟨bs, 0⟩ 1).1 400 400).1.bs), .int .i64 (rowS (numS ⟨bs, 0⟩ 1).1 400 400).1.e], .int .i64 4] W (Says14 (.agg #[.string (tx14 (failS (rowS (numS ⟨bs, 0⟩ 1).1 400 400).1 4).bs), .int .i64 (failS (rowS (numS ⟨bs, 0⟩ 1).1 400 400).1 4).e]) W)) := fl14 _
  have hfz : (failS (rowS (numS ⟨bs, 0⟩ 1).1 400 400).1 4).e ≠ 0 := failS_ne14 (by decide)
  have hends := endS_ok14 (ok_gs4_14 bs)
  have hre : gre14 bs = endS (gs4_14 bs) := rfl
  rw [← hre] at hends
  have hbz : ∀ s : St, gs4_14 bs = s → (s.e = 0 ∧ tx14 s.bs = ⟨#[]⟩ ∧ gre14 bs = 0) ∨ (s.e = 0 ∧ tx14 s.bs ≠ ⟨#[]⟩ ∧ gre14 bs = 3) ∨ (s.e ≠ 0 ∧ gre14 bs = s.e) := fun s hs => by
    rw [hs] at hends
    rcases hends with ⟨h1, h2, h3⟩ | ⟨h1, h2, h3⟩ | ⟨h1, h3⟩
    · exact .inl ⟨h1, by rw [h2]; rfl, h3⟩
    · exact .inr (.inl ⟨h1, tx_nil14 h2, h3⟩)
    · exact .inr (.inr ⟨h1, h3⟩)
  have HBZ := Lib.hid hbz
  have HGS := Lib.hid hgs4
  have HBG := Lib.hid hbig
  have HFZ := Lib.hid hfz
  have HOKG : Hid (gre14 bs = 0 → ∀ A c W, RdS W A (gss14 bs) → Below w.heap.size w W → RGot14 w bs (.returned (.tuple #[.agg #[.int .i64 (gk14 bs), .slice A (gss14 bs).length c], .int .i64 0])) W) := fun h A c W h1 h4 => .inr ⟨h, A, c, rfl, h1, h4⟩
  have HBAD : Hid (gre14 bs ≠ 0 → ∀ W, Below w.heap.size w W → RGot14 w bs (.returned (.tuple #[.agg #[.int .i64 0, .slice none 0 0], .int .i64 (gre14 bs)])) W) := fun h W h1 => .inl ⟨h, rfl, h1⟩
  generalize RGot14 w bs = G at *
  rw [← hk] at HOKG
  clear hk hl hbig hgs4 hfz hends hre hbz
  generalize gs4_14 bs = s4 at *
  generalize gre14 bs = re at *
  generalize gss14 bs = ss at *
  generalize failS (rowS (numS ⟨bs, 0⟩ 1).1 400 400).1 4 = sf at *
  generalize (rowS (numS ⟨bs, 0⟩ 1).1 400 400).1 = s3 at *
  generalize (numS ⟨bs, 0⟩ 1).1 = s1 at *
  generalize tx14 bs = s at *
  have hw64 : wrap64 (k : Int) = k := IntWalk.wrap64_in _ (by omega)
  have hwi : IntKind.i64.wrap (k : Int) = k := IntWalk.i64_in _ (by omega)
  obtain ⟨b1, hb1⟩ : ∃ b, b = tx14 s1.bs := ⟨_, rfl⟩
  obtain ⟨b3, hb3⟩ : ∃ b, b = tx14 s3.bs := ⟨_, rfl⟩
  obtain ⟨bf, hbf⟩ : ∃ b, b = tx14 sf.bs := ⟨_, rfl⟩
  rw [← hb1] at HG1 HRW
  rw [← hb3] at HRW HFL
  rw [← hbf] at HFL
  have HB3 := Lib.hid hb3
  have HBF := Lib.hid hbf
  clear hb1 hb3 hbf
  go_enter Tryd.func19, Tryd.ntmps19
  go_wp2_with fail
  with_reducible refine (HG1.out _).mono ?_
  rintro e w2 ⟨rfl, hb⟩
  obtain ⟨hz2, hbw⟩ := HBX.out w2 hb
  have HZ2 := Lib.hid hz2
  have HB2 := Lib.hid hbw
  have hQ : w.heap.size < w2.heap.size := hz2.lt
  have x0 := hz2.c0
  have x1 := hz2.c1
  have xf := hz2.fr
  clear hb hz2 hbw HG1 HBX
  by_cases h18 : 18 < k
  · have hre := HBG.out h18
    subst hre
    have d18 : decide ((k : Int) > 18) = true := by simp; omega
    clear h18
    go_wp2
    exact bodyPost_ret (results_two14 Tryd.results19 _ _ w.heap.size _ _ (0, 0) _ rfl (RqAt.below (HZ2.out.setAll 0 (.slice none 0 0)) (alloc14 (Below.refl _ _) _)) Tryd.underlying46 rfl sizeRq14) rfl
      (HBAD.out (by decide) _ (next14 ((HB2.out.setCell (Nat.le_refl _) _).setCell (Nat.le_refl _) _) (alloc14 (Below.refl _ _) _)))
  · have HGS2 := Lib.hid (HGS.out h18)
    have HRW2 := Lib.hid (HRW.out h18)
    have d18 : decide ((k : Int) > 18) = false := by simp; omega
    clear h18 HGS HRW HBG x0 x1 xf
    have hz := alloc14 (Below.refl _ w2) (.cells #[.string b1, .int .i64 s1.e] 73)
    have hz3 := HZ2.out.below hz
    have hr3 : Blk2 (w2.alloc (.cells #[.string b1, .int .i64 s1.e] 73)) w2.heap.size (.string b1) (.int .i64 s1.e) := Blk2.new w2 _ _
    have hb3 := next14 HB2.out hz
    have HZ3 := Lib.hid hz3
    have HR3 := Lib.hid hr3
    have HW3 := Lib.hid hb3
    clear hz hz3 hr3 hb3 HZ2 HB2
    go_wp2_with fail
    with_reducible refine (HRW2.out _).mono ?_
    rintro e w4 ⟨A4, c4, rfl, hs4, hn4, hb4⟩
    have hr4 := HR3.out.still (turns14 hb4)
    have hlt : w2.heap.size < (w2.alloc (.cells #[.string b1, .int .i64 s1.e] 73)).heap.size := by simp
    have HR4 : Hid (RGr14 w w2.heap.size b1 s1.e A4 ss w4) := ⟨HZ3.out.below hb4, hr4, hs4, fun a ha => by have := hn4 a ha; omega, next14 HW3.out hb4⟩
    clear hs4 hn4 hb4 hr4 hlt HZ3 HR3 HW3 HRW2
    generalize w2.heap.size = Q at *
    have r0 := HR4.out.r.c0
    have r1 := HR4.out.r.c1
    have rf := HR4.out.r.fr
    have x0 := HR4.out.z.c0
    have x1 := HR4.out.z.c1
    have xf := HR4.out.z.fr
    have HR5 := Lib.hid (HR4.out.rdr hQ b3 s3.e)
    obtain ⟨m, hm⟩ : ∃ m, m = ss.length := ⟨_, rfl⟩
    have HM := Lib.hid hm
    rw [← hm] at HOKG ⊢
    clear hm
    by_cases h0 : k = 0
    · have dk : ((k : Int) != 0) = false := by rw [h0]; rfl
      have hs : s4 = s3 := by rw [HGS2.out, if_neg (fun h => h.1 h0)]
      clear HGS2 h0 HFL HFZ HR4
      rcases HBZ.out s3 hs with ⟨h1, h2, h3⟩ | ⟨h1, h2, h3⟩ | ⟨h1, h3⟩
      · subst h3
        clear HBZ
        have h2' : b3 = ⟨#[]⟩ := by rw [HB3.out]; exact h2
        clear h2 HB3 HBF
        subst h2'
        have hE := h1
        clear h1
        generalize s3.e = ee at *
        subst hE
        have HRF := Lib.hid ((RdS.far14 (RdS.far14 HR5.out.s ⟨w.heap.size, 0, none⟩ (fun a ha => Nat.lt_trans hQ (HR5.out.n a ha)) (.int .i64 (k : Int))) ⟨w.heap.size, 1, none⟩ (fun a ha => Nat.lt_trans hQ (HR5.out.n a ha)) (.slice A4 m c4)))
        go_wp2
        exact bodyPost_ret (results_two14 Tryd.results19 _ _ w.heap.size _ _ (0, 0) _ rfl (RqAt.setAll HR5.out.z k (.slice A4 m c4)) Tryd.underlying46 rfl sizeRq14) rfl
          (HOKG.out (by first | rfl | trivial) A4 c4 _ HRF.out ((HR5.out.b.setCell (Nat.le_refl _) _).setCell (Nat.le_refl _) _))
      · subst h3
        clear HBZ
        have h2' : b3 ≠ ⟨#[]⟩ := by rw [HB3.out]; exact h2
        obtain ⟨m1, m2⟩ := nonempty14 h2'
        clear h2 h2' HB3 HBF
        have hE := h1
        clear h1
        generalize s3.e = ee at *
        subst hE
        have HR9 := Lib.hid (HR5.out.err hQ 3)
        have r9 := HR9.out.r.c1
        go_wp2
        go_region
        all_goals
          go_wp2
          exact bodyPost_ret (results_two14 Tryd.results19 _ _ w.heap.size _ _ (0, 0) _ rfl (RqAt.drew14 (RqAt.setAll HR9.out.z 0 (.slice none 0 0))) Tryd.underlying46 rfl sizeRq14) rfl
            (HBAD.out (by decide) _ (Below.drew ((HR9.out.b.setCell (Nat.le_refl _) _).setCell (Nat.le_refl _) _)))
      · have q1 : (s3.e == 0) = false := by simpa using h1
        have q2 : (s3.e != 0) = true := by simpa using h1
        have H1 := Lib.hid h1
        clear HBZ h1 HB3 HBF
        generalize s3.e = ee at *
        subst h3
        go_wp2
        go_region
        all_goals
          go_wp2
          exact bodyPost_ret (results_two14 Tryd.results19 _ _ w.heap.size _ _ (0, 0) _ rfl (RqAt.drew14 (RqAt.setAll HR5.out.z 0 (.slice none 0 0))) Tryd.underlying46 rfl sizeRq14) rfl
            (HBAD.out H1.out _ (Below.drew ((HR5.out.b.setCell (Nat.le_refl _) _).setCell (Nat.le_refl _) _)))
    have dk : ((k : Int) != 0) = true := by simp; omega
    by_cases hn : ss = []
    · have hm0 : m = 0 := by rw [HM.out, hn]; rfl
      have dm : decide (0 < m) = false := by rw [hm0]; rfl
      clear hm0
      have hs : s4 = s3 := by rw [HGS2.out, if_neg (fun h => h.2 hn)]
      clear HGS2 h0 hn HFL HFZ HR4
      rcases HBZ.out s3 hs with ⟨h1, h2, h3⟩ | ⟨h1, h2, h3⟩ | ⟨h1, h3⟩
      · subst h3
        clear HBZ
        have h2' : b3 = ⟨#[]⟩ := by rw [HB3.out]; exact h2
        clear h2 HB3 HBF
        subst h2'
        have hE := h1
        clear h1
        generalize s3.e = ee at *
        subst hE
        have HRF := Lib.hid ((RdS.far14 (RdS.far14 HR5.out.s ⟨w.heap.size, 0, none⟩ (fun a ha => Nat.lt_trans hQ (HR5.out.n a ha)) (.int .i64 (k : Int))) ⟨w.heap.size, 1, none⟩ (fun a ha => Nat.lt_trans hQ (HR5.out.n a ha)) (.slice A4 m c4)))
        go_wp2
        exact bodyPost_ret (results_two14 Tryd.results19 _ _ w.heap.size _ _ (0, 0) _ rfl (RqAt.setAll HR5.out.z k (.slice A4 m c4)) Tryd.underlying46 rfl sizeRq14) rfl
          (HOKG.out (by first | rfl | trivial) A4 c4 _ HRF.out ((HR5.out.b.setCell (Nat.le_refl _) _).setCell (Nat.le_refl _) _))
      · subst h3
        clear HBZ
        have h2' : b3 ≠ ⟨#[]⟩ := by rw [HB3.out]; exact h2
        obtain ⟨m1, m2⟩ := nonempty14 h2'
        clear h2 h2' HB3 HBF
        have hE := h1
        clear h1
        generalize s3.e = ee at *
        subst hE
        have HR9 := Lib.hid (HR5.out.err hQ 3)
        have r9 := HR9.out.r.c1
        go_wp2
        go_region
        all_goals
          go_wp2
          exact bodyPost_ret (results_two14 Tryd.results19 _ _ w.heap.size _ _ (0, 0) _ rfl (RqAt.drew14 (RqAt.setAll HR9.out.z 0 (.slice none 0 0))) Tryd.underlying46 rfl sizeRq14) rfl
            (HBAD.out (by decide) _ (Below.drew ((HR9.out.b.setCell (Nat.le_refl _) _).setCell (Nat.le_refl _) _)))
      · have q1 : (s3.e == 0) = false := by simpa using h1
        have q2 : (s3.e != 0) = true := by simpa using h1
        have H1 := Lib.hid h1
        clear HBZ h1 HB3 HBF
        generalize s3.e = ee at *
        subst h3
        go_wp2
        go_region
        all_goals
          go_wp2
          exact bodyPost_ret (results_two14 Tryd.results19 _ _ w.heap.size _ _ (0, 0) _ rfl (RqAt.drew14 (RqAt.setAll HR5.out.z 0 (.slice none 0 0))) Tryd.underlying46 rfl sizeRq14) rfl
            (HBAD.out H1.out _ (Below.drew ((HR5.out.b.setCell (Nat.le_refl _) _).setCell (Nat.le_refl _) _)))
    have dm : decide (0 < m) = true := by have := List.length_pos_iff.2 hn; have := HM.out; simp; omega
    have hs : s4 = sf := by rw [HGS2.out, if_pos ⟨h0, hn⟩]
    clear HGS2 h0 hn
    go_wp2_with fail
    with_reducible refine (HFL.out _).mono ?_
    rintro e w6 ⟨rfl, hb⟩
    have HR6 := Lib.hid (HR5.out.below hb)
    clear hb HR4 HR5 r0 r1 rf x0 x1 xf
    have r0 := HR6.out.r.c0
    have r1 := HR6.out.r.c1
    have rf := HR6.out.r.fr
    have x0 := HR6.out.z.c0
    have x1 := HR6.out.z.c1
    have xf := HR6.out.z.fr
    have HR7 := Lib.hid (HR6.out.rdr hQ bf sf.e)
    have h1 := HFZ.out
    have h3c : re = sf.e := by
      rcases HBZ.out sf hs with ⟨h, _⟩ | ⟨h, _⟩ | ⟨_, h⟩
      · exact absurd h h1
      · exact absurd h h1
      · exact h
    clear hs HFZ HFL
    have h3 := h3c
    have q1 : (sf.e == 0) = false := by simpa using h1
    have q2 : (sf.e != 0) = true := by simpa using h1
    have H1 := Lib.hid h1
    clear HBZ h1 HB3 HBF
    generalize sf.e = ee at *
    subst h3
    go_wp2
    go_region
    all_goals
      go_wp2
      exact bodyPost_ret (results_two14 Tryd.results19 _ _ w.heap.size _ _ (0, 0) _ rfl (RqAt.drew14 (RqAt.setAll HR7.out.z 0 (.slice none 0 0))) Tryd.underlying46 rfl sizeRq14) rfl
        (HBAD.out H1.out _ (Below.drew ((HR7.out.b.setCell (Nat.le_refl _) _).setCell (Nat.le_refl _) _)))
end Go.Proofs.YtacmjmfdhegojaaDoor
