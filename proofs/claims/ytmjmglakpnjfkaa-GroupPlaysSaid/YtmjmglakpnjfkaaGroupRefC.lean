/-
  The document's deeds on its rows: without a member, Make, Drop, Join, Leave, Rename, Remove.
  Conditions: rows of at most 900; texts of at most 1000 bytes.
-/
import Derived.Test.YtmjmglakpnjfkaaGroupRefB
namespace Go.Proofs.Ytmjmglakpnjfkaa
open Go.RowKit Go.Maps

/-- Rows and variables that are no groups of the document stay as they were. -/
def KeepG (W w' : World) : Prop := ∀ (k : Nat) (c : Array Value) (T : TypeId) (fr : Nat × Nat), W.heap[k]? = some (.cells c T fr) → T ≠ TG → w'.heap[k]? = some (.cells c T fr)
theorem KeepG.trans {a b c : World} (h : KeepG a b) (k : KeepG b c) : KeepG a c := fun i x T fr hi hT => k i x T fr (h i x T fr hi hT) hT
theorem KeepG.of_below {W w' : World} (hb : Below W.heap.size W w') : KeepG W w' := fun k _ _ _ h _ => (hb.block k (Array.getElem?_eq_some_iff.1 h).1).trans h
theorem Bx10.keep {W : World} {b : Nat} {v1 v2 : Value} (h : Bx10 W b v1 v2) (i : Nat) (x : Value) : KeepG W (W.setCell ⟨b, i, none⟩ x) := fun k c T fr hk hT => by
  refine (Below.heap_setCell _ _ _ _ (fun e => hT ?_)).trans hk
  have e' : k = b := e
  rw [e', show W.heap[b]? = _ from h] at hk
  injection hk with hk
  injection hk with _ hk
  exact hk.symm
theorem ownsRow_keepG {w w' : World} {b : Nat} {e size n : Nat} {v : Value} {xs : List Value} (h : w.ownsRow b e size v n xs) (hk : KeepG w w') (he : e ≠ TG) : w'.ownsRow b e size v n xs := by
  refine ⟨h.1, ?_⟩
  rcases h.2 with hn | ⟨g, cap, cur, e1, h0, hg, hr⟩
  · exact .inl hn
  · exact .inr ⟨g, cap, cur, e1, h0, hk g _ _ _ hg he, hr⟩
theorem NmR.keepG {w w' : World} {v : Value} {N : List (List UInt8)} (h : NmR w v N) (hk : KeepG w w') : NmR w' v N := ownsRow_keepG h hk (by decide)
theorem MbR.keepG {w w' : World} {v : Value} {M : List Who10} (h : MbR w v M) (hk : KeepG w w') : MbR w' v M := ownsRow_keepG h hk (by decide)
theorem Bx10.set0 {W : World} {b : Nat} {v1 v2 : Value} (h : Bx10 W b v1 v2) (x : Value) : Bx10 (W.setCell ⟨b, 0, none⟩ x) b x v2 := by
  have h' : W.heap[b]? = some (.cells #[v1, v2] TG (0, 0)) := h
  have hl := h.lt
  have := h'
  rw [Array.getElem?_eq_getElem hl] at this
  injection this with this
  show (W.setCell ⟨b, 0, none⟩ x).heap[b]? = _
  simp [World.setCell, hl, Array.getElem_modify, this]
theorem Bx10.set1 {W : World} {b : Nat} {v1 v2 : Value} (h : Bx10 W b v1 v2) (x : Value) : Bx10 (W.setCell ⟨b, 1, none⟩ x) b v1 x := by
  have h' : W.heap[b]? = some (.cells #[v1, v2] TG (0, 0)) := h
  have hl := h.lt
  have := h'
  rw [Array.getElem?_eq_getElem hl] at this
  injection this with this
  show (W.setCell ⟨b, 1, none⟩ x).heap[b]? = _
  simp [World.setCell, hl, Array.getElem_modify, this]
theorem Bx10.other {W : World} {b c i : Nat} {v1 v2 : Value} (h : Bx10 W b v1 v2) (hne : b ≠ c) (x : Value) : Bx10 (W.setCell ⟨c, i, none⟩ x) b v1 v2 := (Below.heap_setCell _ _ _ _ hne).trans h
theorem Below.cellG {w wr : World} {b i : Nat} (hb : Below w.heap.size w wr) (h : w.heap.size ≤ b) (x : Value) : Below w.heap.size w (wr.setCell ⟨b, i, none⟩ x) := hb.setCell (p := ⟨b, i, none⟩) h x
/-- The answer is stored. -/
theorem fin2 {w wr : World} {b : Nat} {u1 u2 : Value} (hb : Below w.heap.size w wr) (hr : Bx10 wr b u1 u2) (h : w.heap.size ≤ b) (x y : Value) :
    Bx10 ((wr.setCell ⟨b, 0, none⟩ x).setCell ⟨b, 1, none⟩ y) b x y ∧ Below w.heap.size w ((wr.setCell ⟨b, 0, none⟩ x).setCell ⟨b, 1, none⟩ y) ∧ KeepG wr ((wr.setCell ⟨b, 0, none⟩ x).setCell ⟨b, 1, none⟩ y) :=
  ⟨(hr.set0 x).set1 y, Below.cellG (Below.cellG hb h x) h y, (hr.keep 0 x).trans ((hr.set0 x).keep 1 y)⟩
/-- A field is stored, and the answer. -/
theorem fin3 {w wr : World} {a b i : Nat} {v1 v2 u1 u2 : Value} (hb : Below w.heap.size w wr) (hx : Bx10 wr a v1 v2) (hr : Bx10 wr b u1 u2) (ha : w.heap.size ≤ a) (h : w.heap.size ≤ b) (hab : b ≠ a) (f x y : Value) :
    Bx10 (((wr.setCell ⟨a, i, none⟩ f).setCell ⟨b, 0, none⟩ x).setCell ⟨b, 1, none⟩ y) b x y ∧ Below w.heap.size w (((wr.setCell ⟨a, i, none⟩ f).setCell ⟨b, 0, none⟩ x).setCell ⟨b, 1, none⟩ y) ∧ KeepG wr (((wr.setCell ⟨a, i, none⟩ f).setCell ⟨b, 0, none⟩ x).setCell ⟨b, 1, none⟩ y) := by
  obtain ⟨h1, h2, h3⟩ := fin2 (Below.cellG hb ha f) (hr.other hab f (i := i)) h x y
  exact ⟨h1, h2, (hx.keep i f).trans h3⟩


set_option maxRecDepth 100000 in
set_option maxHeartbeats 4000000 in
theorem rwithout10_calls (v1 v2 : Value) (N : List (List UInt8)) (M : List Who10) (s t : ByteArray) (w : World) (hM : M.length ≤ 900) (h1 : NmR w v1 N) (h2 : MbR w v2 M) :
    Calls Try.prog 42 #[.agg #[v1, v2], .string s, .string t] w fun e w' => ∃ v, e = .returned (.agg #[v1, v]) ∧ MbR w' v (outM M s.data.toList t.data.toList) ∧ Below w.heap.size w w' := by
  obtain ⟨i0, hi, hz0, hz1, hz2⟩ := info_parts infoMem10
  obtain ⟨A1, c1, rfl⟩ := h1.shape
  obtain ⟨A, c, rfl⟩ := h2.shape
  have hb0 : Below w.heap.size w (w.alloc (.cells #[.slice A1 N.length c1, .slice A M.length c] TG)) := below_alloc (Below.refl _ _) _
  have hbx : Bx10 (w.alloc (.cells #[.slice A1 N.length c1, .slice A M.length c] TG)) w.heap.size (.slice A1 N.length c1) (.slice A M.length c) := bx10_new _ _ _
  have HN1 := Lib.hid h1
  have HA := Lib.hid h2
  have HB0 := Lib.hid hb0
  have HBX := Lib.hid hbx
  clear h1 h2 hb0 hbx
  obtain ⟨n1, hn1⟩ : ∃ n1, n1 = N.length := ⟨_, rfl⟩
  obtain ⟨n, hn⟩ : ∃ n, n = M.length := ⟨_, rfl⟩
  rw [← hn1] at HN1 HB0 HBX ⊢
  rw [← hn] at HA HB0 HBX hM ⊢
  have HL1 := Lib.hid hn1
  have HL := Lib.hid hn
  clear hn hn1

  have HR0 : Hid (Bx10 ((w.alloc (.cells #[.slice A1 n1 c1, .slice A n c] TG)).alloc (.cells #[.slice none 0 0, .slice none 0 0] TG)) (w.heap.size + 1) (.slice none 0 0) (.slice none 0 0)) := by
    have := bx10_new (w.alloc (.cells #[.slice A1 n1 c1, .slice A n c] TG)) (.slice none 0 0) (.slice none 0 0)
    rwa [World.size_alloc] at this
  have HBX2 : Hid (Bx10 ((w.alloc (.cells #[.slice A1 n1 c1, .slice A n c] TG)).alloc (.cells #[.slice none 0 0, .slice none 0 0] TG)) w.heap.size (.slice A1 n1 c1) (.slice A n c)) := HBX.out.later (below_alloc (Below.refl _ _) _)
  have HB2 : Hid (Below w.heap.size w ((w.alloc (.cells #[.slice A1 n1 c1, .slice A n c] TG)).alloc (.cells #[.slice none 0 0, .slice none 0 0] TG))) := below_next HB0.out (below_alloc (Below.refl _ _) _)
  go_enter Try.func42, Try.ntmps42
  go_wp2
  generalize (w.alloc (.cells #[.slice A1 n1 c1, .slice A n c] TG)).alloc (.cells #[.slice none 0 0, .slice none 0 0] TG) = w1 at *
  have HBW := HB2
  go_loopg [7, 13] n (fun gg sl si wr => ∃ k : Nat, k ≤ n ∧ n - k ≤ gg ∧ si = .int .i64 k ∧ Hid (Below w1.heap.size w1 wr) ∧ Hid (wr.ownsRow w1.heap.size 65 2 sl ((M.take k).filter (fun m => !(m.1 == s.data.toList) || !(m.2 == t.data.toList))).length (((M.take k).filter (fun m => !(m.1 == s.data.toList) || !(m.2 == t.data.toList))).flatMap pm10)))
  case atStart => exact ⟨0, Nat.zero_le _, by omega, rfl, Below.refl _ _, World.ownsRow_nil _ _ _ _⟩
  case round =>
    obtain ⟨k, hk, hg, rfl, HW, HU⟩ := hrel
    have hlen : ((M.take k).filter (fun m => !(m.1 == s.data.toList) || !(m.2 == t.data.toList))).length ≤ n := Nat.le_trans (List.length_filter_le _ _) (by simp; omega)
    by_cases hlt : k < n
    · have hltz : (k : Int) < (n : Int) := by omega
      have hkl : k < M.length := HL.out ▸ hlt
      obtain ⟨gb, cx, e2, x0, x1⟩ := (HA.out.later (below_next HBW.out HW.out)).at_ hkl
      injection e2 with e2 e2n e2c
      subst e2
      clear e2n e2c
      have HST : Hid ((M.take (k + 1)).filter (fun m => !(m.1 == s.data.toList) || !(m.2 == t.data.toList)) = (M.take k).filter (fun m => !(m.1 == s.data.toList) || !(m.2 == t.data.toList)) ++ if (fun m => !(m.1 == s.data.toList) || !(m.2 == t.data.toList)) M[k] then [M[k]] else []) := filter_snoc10 _ M hkl
      have HUV := Lib.hid (HU.out.alloc (.cells #[.string (tx10 M[k].1), .string (tx10 M[k].2)] 65))
      have HTL : Hid ((tx10 M[k].1).data.toList = M[k].1) := tx10_list _
      have HTM : Hid ((tx10 M[k].2).data.toList = M[k].2) := tx10_list _
      have HEG : Hid (encStr M[k].1 = .string (tx10 M[k].1)) := rfl
      have HEN : Hid (encStr M[k].2 = .string (tx10 M[k].2)) := rfl
      have HEV : Hid (pm10 M[k] = [.string (tx10 M[k].1), .string (tx10 M[k].2)]) := rfl
      generalize hMk : M[k] = qk at *
      generalize tx10 qk.1 = gm at *
      generalize tx10 qk.2 = nm at *
      clear hMk
      have HWV := Lib.hid (below_next HW.out (below_alloc (Below.refl wr.heap.size wr) (.cells #[.string gm, .string nm] 65)))
      by_cases e1 : gm.data.toList = s.data.toList
      · obtain ⟨a1, a2⟩ := eqs10 e1
        have cg : (qk.1 == s.data.toList) = true := by rw [← HTL.out]; simpa using e1
        by_cases e3 : nm.data.toList = t.data.toList
        · obtain ⟨b1, b2⟩ := eqs10 e3
          have cn : (qk.2 == t.data.toList) = true := by rw [← HTM.out]; simpa using e3
          have HE : Hid ((M.take (k + 1)).filter (fun m => !(m.1 == s.data.toList) || !(m.2 == t.data.toList)) = (M.take k).filter (fun m => !(m.1 == s.data.toList) || !(m.2 == t.data.toList))) := by
            show _ = _
            rw [HST.out, if_neg (by simp [cg, cn]), List.append_nil]
          go_wp2
          go_roundg (n - (k + 1))
          case measure => omega
          case rel => exact ⟨k + 1, by omega, by omega, by go_num, HWV, (show Hid _ from by rw [HE.out]; exact HUV.out)⟩
        · obtain ⟨b1, b2⟩ := nes10 e3
          have cn : (qk.2 == t.data.toList) = false := by rw [← HTM.out]; simpa using e3
          have HE : Hid ((M.take (k + 1)).filter (fun m => !(m.1 == s.data.toList) || !(m.2 == t.data.toList)) = (M.take k).filter (fun m => !(m.1 == s.data.toList) || !(m.2 == t.data.toList)) ++ [qk]) := by
            show _ = _
            rw [HST.out, if_pos (by simp [cn])]
          go_wp2_with (first
          | (at_builtin; refine wpList_append_own _ rfl _ _ 28 rfl w1.heap.size 65 i0 (.agg #[.string ⟨#[]⟩, .string ⟨#[]⟩]) 2 32 Try.underlying28 hi hz0 hz1 hz2 rfl (by decide) _ _ _ rfl (HUV.out.alloc _) ⟨wr.heap.size + 1, 0, none⟩ 1 1 [.string gm, .string nm] rfl rfl (fun j u hu => by rw [Addr.add_lit, Nat.zero_add, World.cell?_alloc_at _ _ _ _ (by simp)]; simpa using hu) (by simp [Value.oneCell']) (by unfold maxLen; omega) (by omega) (by have := HW.out.size; simp; omega) ?_; intro v2 w2 hown' hgrow _; have HOw2 := Lib.hid hown'; have HGw2 := Lib.hid hgrow; clear hown' hgrow)
          | fail)
          have ho := HOw2.out
          rw [← HEV.out] at ho
          have R1 := Lib.hid (app10 HWV.out HUV.out HGw2.out)
          have R2 : Hid (w2.ownsRow w1.heap.size 65 2 v2 ((M.take (k + 1)).filter (fun m => !(m.1 == s.data.toList) || !(m.2 == t.data.toList))).length (((M.take (k + 1)).filter (fun m => !(m.1 == s.data.toList) || !(m.2 == t.data.toList))).flatMap pm10)) := by
            show World.ownsRow _ _ _ _ _ _ _
            rw [HE.out]
            simpa using ho
          clear ho
          go_roundg (n - (k + 1))
          case measure => omega
          case rel => exact ⟨k + 1, by omega, by omega, by go_num, R1, R2⟩
      · obtain ⟨a1, a2⟩ := nes10 e1
        have cg : (qk.1 == s.data.toList) = false := by rw [← HTL.out]; simpa using e1
        have HE : Hid ((M.take (k + 1)).filter (fun m => !(m.1 == s.data.toList) || !(m.2 == t.data.toList)) = (M.take k).filter (fun m => !(m.1 == s.data.toList) || !(m.2 == t.data.toList)) ++ [qk]) := by
          show _ = _
          rw [HST.out, if_pos (by simp [cg])]
        go_wp2_with (first
        | (at_builtin; refine wpList_append_own _ rfl _ _ 28 rfl w1.heap.size 65 i0 (.agg #[.string ⟨#[]⟩, .string ⟨#[]⟩]) 2 32 Try.underlying28 hi hz0 hz1 hz2 rfl (by decide) _ _ _ rfl (HUV.out.alloc _) ⟨wr.heap.size + 1, 0, none⟩ 1 1 [.string gm, .string nm] rfl rfl (fun j u hu => by rw [Addr.add_lit, Nat.zero_add, World.cell?_alloc_at _ _ _ _ (by simp)]; simpa using hu) (by simp [Value.oneCell']) (by unfold maxLen; omega) (by omega) (by have := HW.out.size; simp; omega) ?_; intro v2 w2 hown' hgrow _; have HOw2 := Lib.hid hown'; have HGw2 := Lib.hid hgrow; clear hown' hgrow)
        | fail)
        have ho := HOw2.out
        rw [← HEV.out] at ho
        have R1 := Lib.hid (app10 HWV.out HUV.out HGw2.out)
        have R2 : Hid (w2.ownsRow w1.heap.size 65 2 v2 ((M.take (k + 1)).filter (fun m => !(m.1 == s.data.toList) || !(m.2 == t.data.toList))).length (((M.take (k + 1)).filter (fun m => !(m.1 == s.data.toList) || !(m.2 == t.data.toList))).flatMap pm10)) := by
          show World.ownsRow _ _ _ _ _ _ _
          rw [HE.out]
          simpa using ho
        clear ho
        go_roundg (n - (k + 1))
        case measure => omega
        case rel => exact ⟨k + 1, by omega, by omega, by go_num, R1, R2⟩
    · have hltz : ¬ (k : Int) < (n : Int) := by omega
      obtain rfl : k = n := by omega
      have hu := HU.out
      rw [List.take_of_length_le (by have := HL.out; omega)] at hu
      have HBR := Lib.hid (below_next HBW.out HW.out)
      have HML : Hid (MbR wr u7 (outM M s.data.toList t.data.toList)) := MbR.of hu
      have hx := HBX2.out.later HW.out
      have hr := HR0.out.later HW.out
      have k0 := hx.c0
      have k1 := hx.c1
      have kf1 := hx.f1
      have r0 := hr.c0
      have r1 := hr.c1
      have rf0 := hr.f0
      have rf1 := hr.f1
      obtain ⟨AL, cL, rfl⟩ := HML.out.shape
      generalize (outM M s.data.toList t.data.toList).length = q at *
      clear hu
      have hf := fin3 (i := 1) HBR.out hx hr (Nat.le_refl _) (Nat.le_succ _) (by omega) (.slice AL q cL) (.slice A1 n1 c1) (.slice AL q cL)
      have HF := Lib.hid hf
      clear hx hr hf HU
      go_wp2
      have z0 := HF.out.1.c0
      have z1 := HF.out.1.c1
      refine bodyPost_ret (v := .agg #[.slice A1 n1 c1, .slice AL q cL]) ?_ rfl ⟨_, rfl, HML.out.keepG HF.out.2.2, HF.out.2.1⟩
      simp [results, Try.results42, go_sem, z0, z1]end Go.Proofs.Ytmjmglakpnjfkaa
