/-
  The document's rows: sorted, each once; is a name in a group; without a member; members of a group; groups of a name.
  Conditions: rows of at most 1000; texts of at most 1000 bytes.
-/
import Derived.Test.YtmjmglakpnjfkaaGroupRows
import Derived.Laws.Cover1
namespace Go.Proofs.Ytmjmglakpnjfkaa
open Go.RowKit Go.Maps

/-- The document's groups, as a struct in memory. -/
def Bx10 (W : World) (b : Nat) (v1 v2 : Value) : Prop := W.heap[b]? = some (.cells #[v1, v2] 30 (0, 0))
section
variable {W W' : World} {b : Nat} {v1 v2 : Value}
theorem Bx10.c0 (h : Bx10 W b v1 v2) : W.cell? ⟨b, 0, none⟩ = some v1 := by simp [World.cell?, show W.heap[b]? = _ from h]
theorem Bx10.c1 (h : Bx10 W b v1 v2) : W.cell? ⟨b, 1, none⟩ = some v2 := by simp [World.cell?, show W.heap[b]? = _ from h]
theorem Bx10.f0 (h : Bx10 W b v1 v2) : W.frozen? ⟨b, 0, none⟩ = false := by simp [World.frozen?, show W.heap[b]? = _ from h]
theorem Bx10.f1 (h : Bx10 W b v1 v2) : W.frozen? ⟨b, 1, none⟩ = false := by simp [World.frozen?, show W.heap[b]? = _ from h]
theorem Bx10.lt (h : Bx10 W b v1 v2) : b < W.heap.size := (Array.getElem?_eq_some_iff.1 h).1
theorem Bx10.later (h : Bx10 W b v1 v2) (hb : Below W.heap.size W W') : Bx10 W' b v1 v2 := (hb.block b h.lt).trans h
theorem Bx10.turns {S : Nat → Prop} (h : Bx10 W b v1 v2) (ht : Turns S W W') (hS : ¬ S b) : Bx10 W' b v1 v2 := (ht.block b h.lt hS).trans h
theorem bx10_new (W : World) (v1 v2 : Value) : Bx10 (W.alloc (.cells #[v1, v2] 30)) W.heap.size v1 v2 := (MapKept.heap_alloc W _).1
end
theorem filter_snoc10 {α : Type} (p : α → Bool) (L : List α) {k : Nat} (hk : k < L.length) : (L.take (k + 1)).filter p = (L.take k).filter p ++ if p L[k] then [L[k]] else [] := by
  rw [List.take_succ_eq_append_getElem hk, List.filter_append]
  cases h : p L[k] <;> simp [h]
theorem app10 {w1 wr w2 : World} {e : TypeId} {size n : Nat} {v : Value} {xs : List Value} {o : Obj} (hb : Below w1.heap.size w1 wr) (hu : wr.ownsRow w1.heap.size e size v n xs) (hg : (wr.alloc o).grownBy w2 v.ownBlock) : Below w1.heap.size w1 w2 :=
  (below_next hb (below_alloc (Below.refl _ _) _)).grown hg (by have := hb.size; simp; omega) (fun j hj => (hu.lt j hj).1)
theorem encStr_back10 (s : ByteArray) : Proofs.encStr s.data.toList = .string s := by
  show Value.string ⟨s.data.toList.toArray⟩ = _
  simp
theorem eqs10 {a b : ByteArray} (h : a.data.toList = b.data.toList) : (a.toList == b.toList) = true ∧ a.toList = b.toList := by
  have : a.toList = b.toList := by rw [Lib.toList_data, Lib.toList_data]; exact h
  exact ⟨by simpa using this, this⟩
theorem nes10 {a b : ByteArray} (h : ¬ a.data.toList = b.data.toList) : (a.toList == b.toList) = false ∧ ¬ a.toList = b.toList := by
  have : ¬ a.toList = b.toList := by rw [Lib.toList_data, Lib.toList_data]; exact h
  exact ⟨by simpa using this, this⟩

theorem insT_end10 {s : List UInt8} : ∀ {D : List (List UInt8)}, (∀ y ∈ D, bytesBefore s y = false) → insT s D = D ++ [s]
  | [], _ => rfl
  | y :: r, h => by
    unfold insT
    rw [h y (by simp), insT_end10 (fun z hz => h z (by simp [hz]))]
    simp
theorem insT_some10 {s v : List UInt8} : ∀ {D : List (List UInt8)}, (∃ y ∈ D, bytesBefore s y = true) → insT s (D ++ [v]) = insT s D ++ [v]
  | [], h => by obtain ⟨_, h, _⟩ := h; cases h
  | y :: r, h => by
    show insT s (y :: (r ++ [v])) = _
    unfold insT
    cases hb : bytesBefore s y
    · have : ∃ z ∈ r, bytesBefore s z = true := by
        obtain ⟨z, hz, hzb⟩ := h
        rcases List.mem_cons.1 hz with rfl | hz
        · rw [hb] at hzb; cases hzb
        · exact ⟨z, hz, hzb⟩
      simp [insT_some10 this]
    · simp
theorem insT_none10 {s v : List UInt8} : ∀ {D : List (List UInt8)}, (∀ y ∈ D, bytesBefore s y = false) → bytesBefore s v = true → insT s (D ++ [v]) = D ++ [s, v]
  | [], _, hv => by simp [insT, hv]
  | y :: r, h, hv => by
    show insT s (y :: (r ++ [v])) = _
    unfold insT
    rw [h y (by simp), insT_none10 (fun z hz => h z (by simp [hz])) hv]
    simp
/-- Has one been met that is above s? What is written then. -/
def done10 (o : List (List UInt8)) (s : List UInt8) (k : Nat) : Bool := (o.take k).any fun t => bytesBefore s t
def out10 (o : List (List UInt8)) (s : List UInt8) (k : Nat) : List (List UInt8) := if done10 o s k then insT s (o.take k) else o.take k
theorem done10_step {o : List (List UInt8)} {s : List UInt8} {k : Nat} (hk : k < o.length) : done10 o s (k + 1) = (done10 o s k || bytesBefore s o[k]) := by
  unfold done10
  rw [List.take_succ_eq_append_getElem hk, List.any_append]
  simp
theorem out10_step {o : List (List UInt8)} {s : List UInt8} {k : Nat} (hk : k < o.length) :
    (done10 o s k = false → bytesBefore s o[k] = true → out10 o s (k + 1) = out10 o s k ++ [s] ++ [o[k]]) ∧
    (done10 o s k = false → bytesBefore s o[k] = false → out10 o s (k + 1) = out10 o s k ++ [o[k]]) ∧
    (done10 o s k = true → out10 o s (k + 1) = out10 o s k ++ [o[k]]) := by
  have hst := done10_step (s := s) hk
  have hno : done10 o s k = false → ∀ y ∈ o.take k, bytesBefore s y = false := fun hd y hy => by
    unfold done10 at hd
    simpa using List.any_eq_false.1 hd y hy
  refine ⟨fun hd hb => ?_, fun hd hb => ?_, fun hd => ?_⟩
  · unfold out10
    rw [hst, hd, hb, List.take_succ_eq_append_getElem hk]
    simp only [Bool.false_or, if_true, Bool.false_eq_true, if_false]
    rw [insT_none10 (hno hd) hb]
    simp only [List.append_assoc, List.cons_append, List.nil_append]
  · unfold out10
    rw [hst, hd, hb, List.take_succ_eq_append_getElem hk]
    simp
  · obtain ⟨y, hy, hyb⟩ := List.any_eq_true.1 (show (o.take k).any (fun t => bytesBefore s t) = true from hd)
    unfold out10
    rw [hst, hd, List.take_succ_eq_append_getElem hk]
    simp only [Bool.true_or, if_true]
    exact insT_some10 ⟨y, hy, hyb⟩
theorem out10_end (o : List (List UInt8)) (s : List UInt8) : insT s o = if done10 o s o.length then out10 o s o.length else out10 o s o.length ++ [s] := by
  unfold out10
  rw [List.take_length]
  cases hd : done10 o s o.length
  · simp only [Bool.false_eq_true, if_false]
    refine insT_end10 fun y hy => ?_
    unfold done10 at hd
    rw [List.take_length] at hd
    simpa using List.any_eq_false.1 hd y hy
  · simp
theorem out10_length (o : List (List UInt8)) (s : List UInt8) (k : Nat) : (out10 o s k).length ≤ o.length + 1 := by
  have h1 : (o.take k).length ≤ o.length := by simp; omega
  unfold out10
  split
  · rw [insT_length]; omega
  · omega

set_option maxRecDepth 100000 in
set_option maxHeartbeats 4000000 in
theorem rsorted10_calls (v : Value) (N : List (List UInt8)) (w : World) (h12 : N.length ≤ 999) (hu : NmR w v N) :
    Calls Try.prog 36 #[v] w (Names10 (sortT N) w) := by
  have hnot : ∀ (x : Bool) (w : World), (Op.unary .not (.bool x)).run Try.prog w = .ok (.bool (!x)) w := fun _ _ => rfl
  obtain ⟨i0, hi, hz0, hz1, hz2⟩ := info_parts infoStr10
  obtain ⟨A, c, rfl⟩ := hu.shape
  have HA := Lib.hid hu
  clear hu
  obtain ⟨n, hn⟩ : ∃ n, n = N.length := ⟨_, rfl⟩
  rw [← hn] at HA h12 ⊢
  have HL := Lib.hid hn
  clear hn
  have HHS : Hid (∀ (v : Value) (O : List (List UInt8)) (s : ByteArray) (W : World), O.length ≤ 1000 → NmR W v O → Calls Try.prog 35 #[v, .string s] W (Tells5 (hasT O s.data.toList) W)) := rhas10_calls
  go_enter Try.func36, Try.ntmps36
  go_wp2
  go_loopg [3, 12] n (fun gg s3 s12 wr => ∃ k : Nat, k ≤ n ∧ n - k ≤ gg ∧ s12 = .int .i64 k ∧ Hid (Below w.heap.size w wr) ∧ Hid (wr.ownsRow w.heap.size 9 1 s3 (sortT (N.take k)).length ((sortT (N.take k)).map encStr)))
  case atStart => exact ⟨0, Nat.zero_le _, by omega, rfl, Below.refl _ _, World.ownsRow_nil _ _ _ _⟩
  case round =>
    obtain ⟨k, hk, hg, rfl, HWO, HO⟩ := hrel
    have hol : (sortT (N.take k)).length ≤ 999 := Nat.le_trans (sortT_le _) (by simp; omega)
    by_cases hlt : k < n
    · have hltz : (k : Int) < (n : Int) := by omega
      have hkl : k < N.length := HL.out ▸ hlt
      obtain ⟨gb, cx, e2, x0⟩ := (HA.out.later HWO.out).at_ hkl
      injection e2 with e2 e2n e2c
      subst e2
      clear e2n e2c
      have HST : Hid (sortT (N.take (k + 1)) = sortStep (sortT (N.take k)) N[k]) := sortT_take hkl
      have HTL : Hid ((tx10 N[k]).data.toList = N[k]) := tx10_list _
      have HOR : Hid (NmR wr u3 (sortT (N.take k))) := NmR.of HO.out
      obtain ⟨o, ho⟩ : ∃ o, o = sortT (N.take k) := ⟨_, rfl⟩
      rw [← ho] at HST HO HOR hol
      clear ho
      generalize hNk : N[k] = qk at *
      generalize tx10 qk = ss at *
      clear hNk
      have HH := Lib.hid (HHS.out u3 o ss wr (by omega) HOR.out)
      obtain ⟨A3, c3, rfl⟩ := HOR.out.shape
      cases hh : hasT o ss.data.toList with
      | true =>
        rw [hh] at HH
        have HE : Hid (sortT (N.take (k + 1)) = o) := by
          show _ = _
          rw [HST.out, ← HTL.out]
          unfold sortStep
          rw [if_pos (hasT_iff.1 hh)]
        clear hh
        go_wp2_with fail
        with_reducible refine HH.out.mono ?_
        rintro e w2 ⟨rfl, hb⟩
        have HB := Lib.hid (below_next HWO.out hb)
        have HO2 := Lib.hid (ownsRow_below10 HO.out hb)
        clear hb HH
        go_wp2
        go_roundg (n - (k + 1))
        case measure => omega
        case rel => exact ⟨k + 1, by omega, by omega, by go_num, HB, (show Hid _ from by rw [HE.out]; exact HO2.out)⟩
      | false =>
        rw [hh] at HH
        have HE : Hid (sortT (N.take (k + 1)) = insT ss.data.toList o) := by
          show _ = _
          rw [HST.out, ← HTL.out]
          unfold sortStep
          rw [if_neg (hasT_false.1 hh)]
        clear hh
        go_wp2_with fail
        with_reducible refine HH.out.mono ?_
        rintro e wi ⟨rfl, hb⟩
        have HBI := Lib.hid (below_next HWO.out hb)
        have HOI := Lib.hid (HOR.out.later hb)
        clear hb HH
        obtain ⟨m, hm⟩ : ∃ m, m = o.length := ⟨_, rfl⟩
        rw [← hm] at HOI hol ⊢
        have HM := Lib.hid hm
        clear hm
        go_wp2
        go_loopg [6, 7, 21] m (fun gg s6 s7 s21 wr => ∃ j : Nat, j ≤ m ∧ m - j ≤ gg ∧ s21 = .int .i64 j ∧ s7 = .bool (done10 o ss.data.toList j) ∧ Hid (Below wi.heap.size wi wr) ∧ Hid (wr.ownsRow wi.heap.size 9 1 s6 (out10 o ss.data.toList j).length ((out10 o ss.data.toList j).map encStr)))
        case atStart => exact ⟨0, Nat.zero_le _, by omega, rfl, rfl, Below.refl _ _, World.ownsRow_nil _ _ _ _⟩
        case round =>
          obtain ⟨j, hj, hg, rfl, rfl, HW, HU⟩ := hrel
          have hlen := out10_length o ss.data.toList j
          rw [← HM.out] at hlen
          by_cases hlt2 : j < m
          · have hltz2 : (j : Int) < (m : Int) := by omega
            have hjl : j < o.length := HM.out ▸ hlt2
            obtain ⟨gb3, cx3, e3, y0⟩ := (HOI.out.later HW.out).at_ hjl
            injection e3 with e3 e3n e3c
            subst e3
            clear e3n e3c
            obtain ⟨q1, q2, q3⟩ := out10_step (s := ss.data.toList) hjl
            have hst := done10_step (s := ss.data.toList) hjl
            have hTL : (tx10 o[j]).data.toList = o[j] := tx10_list _
            have hEK : encStr o[j] = .string (tx10 o[j]) := rfl
            rw [← hTL] at hst
            generalize hOj : o[j] = oj at *
            generalize tx10 oj = nm at *
            have HQ1 := Lib.hid q1
            have HQ2 := Lib.hid q2
            have HQ3 := Lib.hid q3
            have HST2 := Lib.hid hst
            have HTL2 := Lib.hid hTL
            have HEK := Lib.hid hEK
            clear q1 q2 q3 hst hTL hOj hEK
            generalize hdn : done10 o ss.data.toList j = dn at *
            clear hdn
            cases dn with
            | true =>
              have HE1 := Lib.hid (HQ3.out rfl)
              clear HQ1 HQ2 HQ3
              go_wp2_with (first
              | (at_builtin; refine wpList_append_own _ rfl _ _ 27 rfl wi.heap.size 9 i0 (.string ⟨#[]⟩) 1 16 Try.underlying27 hi hz0 hz1 hz2 rfl (by decide) _ _ _ rfl (HU.out.alloc _) ⟨wr.heap.size, 0, none⟩ 1 1 [.string nm] rfl rfl (fun j u hu => by rw [Addr.add_lit, Nat.zero_add, World.cell?_alloc_at _ _ _ _ (by simp)]; simpa using hu) (by simp [Value.oneCell']) (by unfold maxLen; omega) (by omega) (by have := HW.out.size; simp; omega) ?_; intro v2 w2 hown' hgrow _; have HOw2 := Lib.hid hown'; have HGw2 := Lib.hid hgrow; clear hown' hgrow)
              | fail)
              have ho := HOw2.out
              rw [← HEK.out] at ho
              have R1 := Lib.hid (app10 HW.out HU.out HGw2.out)
              have R2 : Hid (w2.ownsRow wi.heap.size 9 1 v2 (out10 o ss.data.toList (j + 1)).length ((out10 o ss.data.toList (j + 1)).map encStr)) := by
                show World.ownsRow _ _ _ _ _ _ _
                rw [HE1.out]
                simpa using ho
              clear ho
              go_roundg (m - (j + 1))
              case measure => omega
              case rel => exact ⟨j + 1, by omega, by omega, by go_num, by rw [HST2.out]; rfl, R1, R2⟩
            | false =>
              cases hbb : bytesBefore ss.data.toList nm.data.toList with
              | true =>
                have l1 : Op.bytesLess ss.toList nm.toList = true := by rw [Lib.toList_data, Lib.toList_data, lessb10]; exact hbb
                have HE1 := Lib.hid (HQ1.out rfl (by rw [← HTL2.out]; exact hbb))
                have HBB := Lib.hid hbb
                clear hbb HQ1 HQ2 HQ3
                go_wp2_with (first
                | (at_builtin; refine wpList_append_own _ rfl _ _ 27 rfl wi.heap.size 9 i0 (.string ⟨#[]⟩) 1 16 Try.underlying27 hi hz0 hz1 hz2 rfl (by decide) _ _ _ rfl (HU.out.alloc _) ⟨wr.heap.size, 0, none⟩ 1 1 [.string ss] rfl rfl (fun j u hu => by rw [Addr.add_lit, Nat.zero_add, World.cell?_alloc_at _ _ _ _ (by simp)]; simpa using hu) (by simp [Value.oneCell']) (by unfold maxLen; omega) (by omega) (by have := HW.out.size; simp; omega) ?_; intro v2 w2 hown' hgrow _; have HOw2 := Lib.hid hown'; have HGw2 := Lib.hid hgrow; clear hown' hgrow; have HB2 := Lib.hid (app10 HW.out HU.out HGw2.out))
                | (at_builtin; refine wpList_append_own _ rfl _ _ 27 rfl wi.heap.size 9 i0 (.string ⟨#[]⟩) 1 16 Try.underlying27 hi hz0 hz1 hz2 rfl (by decide) _ _ _ rfl (HOw2.out.alloc _) ⟨w2.heap.size, 0, none⟩ 1 1 [.string nm] rfl rfl (fun j u hu => by rw [Addr.add_lit, Nat.zero_add, World.cell?_alloc_at _ _ _ _ (by simp)]; simpa using hu) (by simp [Value.oneCell']) (by unfold maxLen; omega) (by omega) (by have := HW.out.size; have := HB2.out.size; simp; omega) ?_; intro v3 w3 hown' hgrow _; have HOw3 := Lib.hid hown'; have HGw3 := Lib.hid hgrow; clear hown' hgrow)
                | fail)
                have hb3 := app10 HB2.out HOw2.out HGw3.out
                have ho3 := HOw3.out
                rw [← HEK.out, ← encStr_back10 ss] at ho3
                have R1 := Lib.hid hb3
                have R2 : Hid (w3.ownsRow wi.heap.size 9 1 v3 (out10 o ss.data.toList (j + 1)).length ((out10 o ss.data.toList (j + 1)).map encStr)) := by
                  show World.ownsRow _ _ _ _ _ _ _
                  rw [HE1.out]
                  simpa using ho3
                clear hb3 ho3
                go_roundg (m - (j + 1))
                case measure => omega
                case rel => exact ⟨j + 1, by omega, by omega, by go_num, by rw [HST2.out, HBB.out]; rfl, R1, R2⟩
              | false =>
                have l1 : Op.bytesLess ss.toList nm.toList = false := by rw [Lib.toList_data, Lib.toList_data, lessb10]; exact hbb
                have HE1 := Lib.hid (HQ2.out rfl (by rw [← HTL2.out]; exact hbb))
                have HBB := Lib.hid hbb
                clear hbb HQ1 HQ2 HQ3
                go_wp2_with (first
                | (at_builtin; refine wpList_append_own _ rfl _ _ 27 rfl wi.heap.size 9 i0 (.string ⟨#[]⟩) 1 16 Try.underlying27 hi hz0 hz1 hz2 rfl (by decide) _ _ _ rfl (HU.out.alloc _) ⟨wr.heap.size, 0, none⟩ 1 1 [.string nm] rfl rfl (fun j u hu => by rw [Addr.add_lit, Nat.zero_add, World.cell?_alloc_at _ _ _ _ (by simp)]; simpa using hu) (by simp [Value.oneCell']) (by unfold maxLen; omega) (by omega) (by have := HW.out.size; simp; omega) ?_; intro v2 w2 hown' hgrow _; have HOw2 := Lib.hid hown'; have HGw2 := Lib.hid hgrow; clear hown' hgrow)
                | fail)
                have ho := HOw2.out
                rw [← HEK.out] at ho
                have R1 := Lib.hid (app10 HW.out HU.out HGw2.out)
                have R2 : Hid (w2.ownsRow wi.heap.size 9 1 v2 (out10 o ss.data.toList (j + 1)).length ((out10 o ss.data.toList (j + 1)).map encStr)) := by
                  show World.ownsRow _ _ _ _ _ _ _
                  rw [HE1.out]
                  simpa using ho
                clear ho
                go_roundg (m - (j + 1))
                case measure => omega
                case rel => exact ⟨j + 1, by omega, by omega, by go_num, by rw [HST2.out, HBB.out]; rfl, R1, R2⟩
          · have hltz2 : ¬ (j : Int) < (m : Int) := by omega
            obtain rfl : j = m := by omega
            have hend := out10_end o ss.data.toList
            rw [← HM.out] at hend
            cases hdn : done10 o ss.data.toList j with
            | true =>
              rw [hdn, if_pos rfl] at hend
              have R1 := Lib.hid (below_next HBI.out HW.out)
              have R2 : Hid (wr.ownsRow w.heap.size 9 1 u6 (sortT (N.take (k + 1))).length ((sortT (N.take (k + 1))).map encStr)) := by
                show World.ownsRow _ _ _ _ _ _ _
                rw [HE.out, hend]
                exact ownsRow_low10 HU.out HBI.out.size
              clear hend hdn
              go_wp2
              go_roundg (n - (k + 1))
              case measure => omega
              case rel => exact ⟨k + 1, by omega, by omega, by go_num, R1, R2⟩
            | false =>
              rw [hdn, if_neg (by decide)] at hend
              have HEN := Lib.hid hend
              clear hend hdn
              go_wp2_with (first
              | (at_builtin; refine wpList_append_own _ rfl _ _ 27 rfl wi.heap.size 9 i0 (.string ⟨#[]⟩) 1 16 Try.underlying27 hi hz0 hz1 hz2 rfl (by decide) _ _ _ rfl (HU.out.alloc _) ⟨wr.heap.size, 0, none⟩ 1 1 [.string ss] rfl rfl (fun j u hu => by rw [Addr.add_lit, Nat.zero_add, World.cell?_alloc_at _ _ _ _ (by simp)]; simpa using hu) (by simp [Value.oneCell']) (by unfold maxLen; omega) (by omega) (by have := HW.out.size; simp; omega) ?_; intro v2 w2 hown' hgrow _; have HOw2 := Lib.hid hown'; have HGw2 := Lib.hid hgrow; clear hown' hgrow)
              | fail)
              have ho := HOw2.out
              rw [← encStr_back10 ss] at ho
              have R1 := Lib.hid (below_next HBI.out (app10 HW.out HU.out HGw2.out))
              have R2 : Hid (w2.ownsRow w.heap.size 9 1 v2 (sortT (N.take (k + 1))).length ((sortT (N.take (k + 1))).map encStr)) := by
                show World.ownsRow _ _ _ _ _ _ _
                rw [HE.out, HEN.out]
                refine ownsRow_low10 ?_ HBI.out.size
                simpa using ho
              clear ho
              go_roundg (n - (k + 1))
              case measure => omega
              case rel => exact ⟨k + 1, by omega, by omega, by go_num, R1, R2⟩
    · have hltz : ¬ (k : Int) < (n : Int) := by omega
      obtain rfl : k = n := by omega
      have hu := HO.out
      rw [List.take_of_length_le (by have := HL.out; omega)] at hu
      have HF : Hid (Names10 (sortT N) w (.returned u3) wr) := ⟨_, rfl, hu, HWO.out⟩
      clear hu
      go_wp2
      go_ret
      exact HF.out
end Go.Proofs.Ytmjmglakpnjfkaa
