/-
  The document's row of names and addresses: whose an address is, a name's address, one more, one less.
  Conditions: rows of at most 1000 pairs.
-/
import Derived.Test.YtiodbghokiajjaaDoorMailOwn
import Derived.Laws.Cover1
namespace Go.Proofs.YtiodbghokiajjaaDoor
open Go.RowKit Go.Maps

theorem lessb9 : ∀ a b : List UInt8, Op.bytesLess a b = bytesBefore a b
  | [], [] => by simp [Op.bytesLess, bytesBefore]
  | [], _ :: _ => by simp [Op.bytesLess, bytesBefore]
  | _ :: _, [] => by simp [Op.bytesLess, bytesBefore]
  | a :: r, b :: s => by simp [Op.bytesLess, bytesBefore, lessb9 r s]
theorem tx9_ne {a : List UInt8} {s : ByteArray} (h : a ≠ s.data.toList) : ((tx7 a).toList == s.toList) = false := by
  rw [Lib.toList_data, Lib.toList_data, tx7_list]; simpa using h
theorem tx9_eq {a : List UInt8} {s : ByteArray} (h : a = s.data.toList) : tx7 a = s := by rw [h, tx7_back]
theorem getE_at {L : Row7} (hr : Rise7 L) {k : Nat} (hk : k < L.length) {n : List UInt8} (h : L[k].1 = n) : getE L n = L[k].2 := by
  subst h
  exact get_mem hr (List.getElem_mem hk)

set_option maxRecDepth 100000 in
set_option maxHeartbeats 1000000 in
theorem rof9_calls (v : Value) (L : Row7) (s : ByteArray) (w : World) (h12 : L.length ≤ 1000) (hr : Rise7 L) (hu : Row9 L w v) :
    Calls Tryd.prog 9 #[v, .string s] w fun e w' => e = .returned (.string (tx7 (getE L s.data.toList))) ∧ Below w.heap.size w w' := by
  obtain ⟨A, c, rfl⟩ := hu.shape
  have HA := Lib.hid hu
  have HRI := Lib.hid hr
  clear hu hr
  obtain ⟨n, hn⟩ : ∃ n, n = L.length := ⟨_, rfl⟩
  rw [← hn] at HA h12 ⊢
  have HL := Lib.hid hn
  clear hn
  obtain ⟨r, hr⟩ : ∃ r, r = tx7 (getE L s.data.toList) := ⟨_, rfl⟩
  rw [← hr]
  have HRS := Lib.hid hr
  clear hr
  go_enter Tryd.func9, Tryd.ntmps9
  go_wp2
  go_loopg [9] n (fun gg s9 wr => ∃ k : Nat, k ≤ n ∧ n - k ≤ gg ∧ s9 = .int .i64 k ∧ Hid (Below w.heap.size w wr) ∧ Hid (∀ j (h : j < L.length), j < k → L[j].1 ≠ s.data.toList))
  case atStart => exact ⟨0, Nat.zero_le _, by omega, rfl, Below.refl _ _, fun j _ hj => absurd hj (Nat.not_lt_zero _)⟩
  case round =>
    obtain ⟨k, hk, hg, rfl, HW, A0⟩ := hrel
    by_cases hlt : k < n
    · have hltz : (k : Int) < (n : Int) := by omega
      have hkl : k < L.length := HL.out ▸ hlt
      obtain ⟨Ax, cx, e1, hcs⟩ := (HA.out.later HW.out).pv
      injection e1 with e1 e1n e1c
      clear e1n e1c
      obtain ⟨g, e2, x0, x1⟩ := hcs k hkl
      rw [e2] at e1
      subst e1
      clear hcs e2
      have HB := Lib.hid (below_next HW.out (below_alloc (Below.refl wr.heap.size wr) (.cells #[.string (tx7 L[k].1), .string (tx7 L[k].2)] 49)))
      by_cases he : L[k].1 = s.data.toList
      · have hs : tx7 L[k].1 = s := tx9_eq he
        have hge : getE L s.data.toList = L[k].2 := by
          exact getE_at HRI.out hkl he
        have n2 : (s.toList == s.toList) = true := by simp
        rw [hs] at x0 HB
        have HGE := Lib.hid (HRS.out.trans (congrArg tx7 hge))
        clear he hs hge A0
        generalize tx7 L[k].2 = mm at *
        go_wp2
        go_ret
        exact ⟨by rw [HGE.out]; rfl, HB.out⟩
      · have n2 := tx9_ne he
        have n1 : ¬ (tx7 L[k].1).toList = s.toList := by simpa using n2
        have HX : Hid (∀ j (h : j < L.length), j < k + 1 → L[j].1 ≠ s.data.toList) := fun j h hj => by
          by_cases e : j = k
          · subst e; exact he
          · exact A0.out j h (by omega)
        clear he A0
        generalize tx7 L[k].1 = nm at *
        generalize tx7 L[k].2 = mm at *
        go_wp2
        go_roundg (n - (k + 1))
        case measure => omega
        case rel => exact ⟨k + 1, by omega, by omega, by go_num, HB, HX⟩
    · have hltz : ¬ (k : Int) < (n : Int) := by omega
      obtain rfl : k = n := by omega
      have hge : getE L s.data.toList = [] := by
        refine getE_none ?_
        cases hh : hasE L s.data.toList
        · rfl
        · obtain ⟨p, hp, he⟩ := hasE_iff.1 hh
          obtain ⟨j, hj, rfl⟩ := List.getElem_of_mem hp
          exact absurd he (A0.out j hj (by have := HL.out; omega))
      have HGE := Lib.hid (HRS.out.trans (congrArg tx7 hge))
      clear A0 hge
      go_wp2
      go_ret
      exact ⟨by rw [HGE.out]; rfl, HW.out⟩

set_option maxRecDepth 100000 in
set_option maxHeartbeats 1000000 in
theorem rowner9_calls (v : Value) (L : Row7) (s : ByteArray) (w : World) (h12 : L.length ≤ 1000) (hm : ∃ M, Mirror9 L M) (hu : Row9 L w v) :
    Calls Tryd.prog 29 #[v, .string s] w fun e w' => e = .returned (.string (tx7 (ownO L s.data.toList))) ∧ Below w.heap.size w w' := by
  obtain ⟨A, c, rfl⟩ := hu.shape
  have HA := Lib.hid hu
  have HRI := Lib.hid hm
  clear hu hm
  obtain ⟨n, hn⟩ : ∃ n, n = L.length := ⟨_, rfl⟩
  rw [← hn] at HA h12 ⊢
  have HL := Lib.hid hn
  clear hn
  obtain ⟨r, hr⟩ : ∃ r, r = tx7 (ownO L s.data.toList) := ⟨_, rfl⟩
  rw [← hr]
  have HRS := Lib.hid hr
  clear hr
  go_enter Tryd.func29, Tryd.ntmps29
  go_wp2
  go_loopg [9] n (fun gg s9 wr => ∃ k : Nat, k ≤ n ∧ n - k ≤ gg ∧ s9 = .int .i64 k ∧ Hid (Below w.heap.size w wr) ∧ Hid (∀ j (h : j < L.length), j < k → L[j].2 ≠ s.data.toList))
  case atStart => exact ⟨0, Nat.zero_le _, by omega, rfl, Below.refl _ _, fun j _ hj => absurd hj (Nat.not_lt_zero _)⟩
  case round =>
    obtain ⟨k, hk, hg, rfl, HW, A0⟩ := hrel
    by_cases hlt : k < n
    · have hltz : (k : Int) < (n : Int) := by omega
      have hkl : k < L.length := HL.out ▸ hlt
      obtain ⟨Ax, cx, e1, hcs⟩ := (HA.out.later HW.out).pv
      injection e1 with e1 e1n e1c
      clear e1n e1c
      obtain ⟨g, e2, x0, x1⟩ := hcs k hkl
      rw [e2] at e1
      subst e1
      clear hcs e2
      have HB := Lib.hid (below_next HW.out (below_alloc (Below.refl wr.heap.size wr) (.cells #[.string (tx7 L[k].1), .string (tx7 L[k].2)] 49)))
      by_cases he : L[k].2 = s.data.toList
      · have hs : tx7 L[k].2 = s := tx9_eq he
        have hge : ownO L s.data.toList = L[k].1 := by
          obtain ⟨M, hM⟩ := HRI.out
          rw [← he]
          exact hM.own (List.getElem_mem hkl)
        have n2 : (s.toList == s.toList) = true := by simp
        rw [hs] at x1 HB
        have HGE := Lib.hid (HRS.out.trans (congrArg tx7 hge))
        clear he hs hge A0
        generalize tx7 L[k].1 = mm at *
        go_wp2
        go_ret
        exact ⟨by rw [HGE.out]; rfl, HB.out⟩
      · have n2 := tx9_ne he
        have n1 : ¬ (tx7 L[k].2).toList = s.toList := by simpa using n2
        have HX : Hid (∀ j (h : j < L.length), j < k + 1 → L[j].2 ≠ s.data.toList) := fun j h hj => by
          by_cases e : j = k
          · subst e; exact he
          · exact A0.out j h (by omega)
        clear he A0
        generalize tx7 L[k].1 = nm at *
        generalize tx7 L[k].2 = mm at *
        go_wp2
        go_roundg (n - (k + 1))
        case measure => omega
        case rel => exact ⟨k + 1, by omega, by omega, by go_num, HB, HX⟩
    · have hltz : ¬ (k : Int) < (n : Int) := by omega
      obtain rfl : k = n := by omega
      have hge : ownO L s.data.toList = [] := by
        refine ownO_none ?_
        cases hh : hasO L s.data.toList
        · rfl
        · obtain ⟨p, hp, he⟩ := List.any_eq_true.1 (show L.any (fun p => p.2 == s.data.toList) = true from hh)
          obtain ⟨j, hj, rfl⟩ := List.getElem_of_mem hp
          exact absurd (by simpa using he) (A0.out j hj (by have := HL.out; omega))
      have HGE := Lib.hid (HRS.out.trans (congrArg tx7 hge))
      clear A0 hge
      go_wp2
      go_ret
      exact ⟨by rw [HGE.out]; rfl, HW.out⟩

theorem ins_end9 {x : List UInt8 × List UInt8} : ∀ {D : Row7}, (∀ y ∈ D, bytesBefore x.1 y.1 = false) → insE x D = D ++ [x]
  | [], _ => rfl
  | y :: r, h => by
    unfold insE
    rw [h y (by simp), ins_end9 (fun z hz => h z (by simp [hz]))]
    simp
theorem ins_some9 {x v : List UInt8 × List UInt8} : ∀ {D : Row7}, (∃ y ∈ D, bytesBefore x.1 y.1 = true) → insE x (D ++ [v]) = insE x D ++ [v]
  | [], h => by obtain ⟨_, h, _⟩ := h; cases h
  | y :: r, h => by
    show insE x (y :: (r ++ [v])) = _
    unfold insE
    cases hb : bytesBefore x.1 y.1
    · have : ∃ z ∈ r, bytesBefore x.1 z.1 = true := by
        obtain ⟨z, hz, hzb⟩ := h
        rcases List.mem_cons.1 hz with rfl | hz
        · rw [hb] at hzb; cases hzb
        · exact ⟨z, hz, hzb⟩
      simp [ins_some9 this]
    · simp
theorem ins_none9 {x v : List UInt8 × List UInt8} : ∀ {D : Row7}, (∀ y ∈ D, bytesBefore x.1 y.1 = false) → bytesBefore x.1 v.1 = true → insE x (D ++ [v]) = D ++ [x, v]
  | [], _, hv => by simp [insE, hv]
  | y :: r, h, hv => by
    show insE x (y :: (r ++ [v])) = _
    unfold insE
    rw [h y (by simp), ins_none9 (fun z hz => h z (by simp [hz])) hv]
    simp
/-- Has one been met that is above n? What is written then. -/
def done9 (L : Row7) (n : List UInt8) (k : Nat) : Bool := (L.take k).any fun v => bytesBefore n v.1
def out9 (L : Row7) (n h : List UInt8) (k : Nat) : Row7 := if done9 L n k then insE (n, h) (delE (L.take k) n) else delE (L.take k) n
theorem done9_step {L : Row7} {n : List UInt8} {k : Nat} (hk : k < L.length) : done9 L n (k + 1) = (done9 L n k || bytesBefore n L[k].1) := by
  unfold done9
  rw [List.take_succ_eq_append_getElem hk, List.any_append]
  simp
theorem del_snoc9 (P : Row7) (v : List UInt8 × List UInt8) (n : List UInt8) : delE (P ++ [v]) n = delE P n ++ if v.1 = n then [] else [v] := by
  unfold delE
  rw [List.filter_append]
  by_cases e : v.1 = n <;> simp [e]
theorem rise_take9 {L : Row7} (hr : Rise7 L) {k : Nat} (hk : k < L.length) : ∀ y ∈ L.take k, bytesBefore y.1 L[k].1 = true := by
  intro y hy
  obtain ⟨j, hj, rfl⟩ := List.getElem_of_mem hy
  rw [List.getElem_take]
  exact List.pairwise_iff_getElem.1 hr j k _ hk (by simp at hj; omega)
theorem out9_step {L : Row7} (hr : Rise7 L) {n h : List UInt8} {k : Nat} (hk : k < L.length) :
    (done9 L n k = false → bytesBefore n L[k].1 = true → out9 L n h (k + 1) = out9 L n h k ++ [(n, h)] ++ [L[k]] ∧ L[k].1 ≠ n) ∧
    (done9 L n k = false → bytesBefore n L[k].1 = false → L[k].1 = n → out9 L n h (k + 1) = out9 L n h k) ∧
    (done9 L n k = false → bytesBefore n L[k].1 = false → L[k].1 ≠ n → out9 L n h (k + 1) = out9 L n h k ++ [L[k]]) ∧
    (done9 L n k = true → out9 L n h (k + 1) = out9 L n h k ++ [L[k]] ∧ L[k].1 ≠ n) := by
  have hup := rise_take9 hr hk
  have hst := done9_step (n := n) hk
  have hdl : delE (L.take (k + 1)) n = delE (L.take k) n ++ if L[k].1 = n then [] else [L[k]] := by rw [List.take_succ_eq_append_getElem hk, del_snoc9]
  have hno : done9 L n k = false → ∀ y ∈ delE (L.take k) n, bytesBefore n y.1 = false := fun hd y hy => by
    have hy' := (mem_del.1 hy).1
    unfold done9 at hd
    simpa using List.any_eq_false.1 hd y hy'
  refine ⟨fun hd hb => ?_, fun hd hb e => ?_, fun hd hb e => ?_, fun hd => ?_⟩
  · have hne : L[k].1 ≠ n := fun e => (before_ne hb) e.symm
    refine ⟨?_, hne⟩
    unfold out9
    rw [hst, hd, hb, hdl, if_neg hne]
    simp [ins_none9 (x := (n, h)) (v := L[k]) (hno hd) hb]
  · unfold out9
    rw [hst, hd, hb, hdl, if_pos e, List.append_nil]
    simp
  · unfold out9
    rw [hst, hd, hb, hdl, if_neg e]
    simp
  · obtain ⟨y, hy, hyb⟩ := List.any_eq_true.1 (show (L.take k).any (fun v => bytesBefore n v.1) = true from hd)
    have hlt : bytesBefore n L[k].1 = true := WideShapes.bytes_trans _ _ _ hyb (hup y hy)
    have hne : L[k].1 ≠ n := fun e => (before_ne hlt) e.symm
    refine ⟨?_, hne⟩
    unfold out9
    rw [hst, hd, hdl, if_neg hne]
    simp only [Bool.true_or, if_true]
    exact ins_some9 ⟨y, mem_del.2 ⟨hy, fun e => (before_ne hyb) e.symm⟩, hyb⟩
theorem out9_end {L : Row7} (n h : List UInt8) : putE L n h = if done9 L n L.length then out9 L n h L.length else out9 L n h L.length ++ [(n, h)] := by
  unfold out9 putE
  rw [List.take_length]
  cases hd : done9 L n L.length
  · simp only [Bool.false_eq_true, if_false]
    refine ins_end9 fun y hy => ?_
    unfold done9 at hd
    rw [List.take_length] at hd
    simpa using List.any_eq_false.1 hd y (mem_del.1 hy).1
  · simp
theorem out9_length (L : Row7) (n h : List UInt8) (k : Nat) : (out9 L n h k).length ≤ L.length + 1 := by
  have h1 : (delE (L.take k) n).length ≤ L.length := Nat.le_trans (List.length_filter_le _ _) (by simp; omega)
  unfold out9
  split
  · rw [ins_length]; omega
  · omega
theorem del_step9 {L : Row7} {n : List UInt8} {k : Nat} (hk : k < L.length) : delE (L.take (k + 1)) n = delE (L.take k) n ++ if L[k].1 = n then [] else [L[k]] := by rw [List.take_succ_eq_append_getElem hk, del_snoc9]

theorem own9_app {w1 wr w2 : World} {v v2 : Value} {L : Row7} {o : Obj} {q : List UInt8 × List UInt8} (hb : Below w1.heap.size w1 wr) (hu : wr.ownsRow w1.heap.size 49 2 v L.length (L.flatMap pr9)) (ho : w2.ownsRow w1.heap.size 49 2 v2 (L.length + 1) (L.flatMap pr9 ++ pr9 q)) (hg : (wr.alloc o).grownBy w2 v.ownBlock) :
    Below w1.heap.size w1 w2 ∧ w2.ownsRow w1.heap.size 49 2 v2 (L ++ [q]).length ((L ++ [q]).flatMap pr9) ∧ ∀ k, k < wr.heap.size → some k ≠ v.ownBlock → w2.heap[k]? = wr.heap[k]? := by
  refine ⟨(below_next hb (below_alloc (Below.refl _ _) _)).grown hg (by have := hb.size; simp; omega) (fun j hj => (hu.lt j hj).1), ?_, ?_⟩
  · rw [List.length_append, List.flatMap_append]
    simpa using ho
  · intro k hk hne
    exact (hg.block k (by simp; omega) hne).trans (Below.heap_alloc _ _ k hk)
theorem own_ne9 {w : World} {base n size : Nat} {e : TypeId} {v : Value} {xs : List Value} (h : w.ownsRow base e size v n xs) : some w.heap.size ≠ v.ownBlock := fun he => by
  have := (h.lt _ he.symm).2
  omega

set_option maxRecDepth 100000 in
set_option maxHeartbeats 4000000 in
theorem rdrop9_calls (v : Value) (L : Row7) (s : ByteArray) (w : World) (h12 : L.length ≤ 1000) (hu : Row9 L w v) :
    Calls Tryd.prog 10 #[v, .string s, .string ⟨#[]⟩] w fun e w' => ∃ v, e = .returned v ∧ Row9 (delE L s.data.toList) w' v ∧ Below w.heap.size w w' := by
  have hnot : ∀ (x : Bool) (w : World), (Op.unary .not (.bool x)).run Tryd.prog w = .ok (.bool (!x)) w := fun _ _ => rfl
  obtain ⟨A, c, rfl⟩ := hu.shape
  have HA := Lib.hid hu
  clear hu
  obtain ⟨n, hn⟩ : ∃ n, n = L.length := ⟨_, rfl⟩
  rw [← hn] at HA h12 ⊢
  have HL := Lib.hid hn
  clear hn
  obtain ⟨i0, hi, hz0, hz1, hz2⟩ := info_parts infoPair9
  go_enter Tryd.func10, Tryd.ntmps10
  go_wp2
  go_loopg [7, 8, 15] n (fun gg s7 s8 s15 wr => ∃ k : Nat, k ≤ n ∧ n - k ≤ gg ∧ s15 = .int .i64 k ∧ s8 = .bool true ∧ Hid (Below w.heap.size w wr) ∧ Hid (wr.ownsRow w.heap.size 49 2 s7 (delE (L.take k) s.data.toList).length ((delE (L.take k) s.data.toList).flatMap pr9)))
  case atStart => exact ⟨0, Nat.zero_le _, by omega, rfl, rfl, Below.refl _ _, World.ownsRow_nil _ _ _ _⟩
  case round =>
    obtain ⟨k, hk, hg, rfl, rfl, HW, HU⟩ := hrel
    have hlen : (delE (L.take k) s.data.toList).length ≤ n := Nat.le_trans (List.length_filter_le _ _) (by simp; omega)
    by_cases hlt : k < n
    · have hltz : (k : Int) < (n : Int) := by omega
      have hkl : k < L.length := HL.out ▸ hlt
      obtain ⟨Ax, cx, e1, hcs⟩ := (HA.out.later HW.out).pv
      injection e1 with e1 e1n e1c
      clear e1n e1c
      obtain ⟨g, e2, x0, x1⟩ := hcs k hkl
      rw [e2] at e1
      subst e1
      clear hcs e2
      have hst := del_step9 (n := s.data.toList) hkl
      have HST := Lib.hid hst
      clear hst
      have HVQ : Hid (pr9 L[k] = [.string (tx7 L[k].1), .string (tx7 L[k].2)]) := rfl
      have HTL : Hid ((tx7 L[k].1).data.toList = L[k].1) := tx7_list _
      generalize hLk : L[k] = qk at *
      generalize tx7 qk.1 = nm at *
      generalize tx7 qk.2 = mm at *
      have HLK := Lib.hid hLk
      clear hLk
      have HWV := Lib.hid (below_next HW.out (below_alloc (Below.refl wr.heap.size wr) (.cells #[.string nm, .string mm] 49)))
      have HUV := Lib.hid (HU.out.alloc (.cells #[.string nm, .string mm] 49))
      by_cases e : nm.data.toList = s.data.toList
      · have hs : nm = s := by rw [← tx7_back nm, e, tx7_back]
        subst hs
        have n2 : (nm.toList == nm.toList) = true := by simp
        have n1 : (nm.toList != nm.toList) = false := by simp
        have HE1 : Hid (delE (L.take (k + 1)) nm.data.toList = delE (L.take k) nm.data.toList) := by
          show _ = _
          rw [HST.out, if_pos HTL.out.symm, List.append_nil]
        clear e
        go_wp2
        go_roundg (n - (k + 1))
        case measure => omega
        case rel => exact ⟨k + 1, by omega, by omega, by go_num, rfl, HWV, (show Hid _ from by rw [HE1.out]; exact HUV.out)⟩
      · have n2 : (nm.toList == s.toList) = false := by rw [Lib.toList_data, Lib.toList_data]; simpa using e
        have n1 : ¬ nm.toList = s.toList := by simpa using n2
        have HE1 : Hid (delE (L.take (k + 1)) s.data.toList = delE (L.take k) s.data.toList ++ [qk]) := by
          show _ = _
          rw [HST.out, if_neg (fun h => e (HTL.out.trans h))]
        clear e
        go_wp2_with (first
        | (at_builtin; refine wpList_append_own _ rfl _ _ 27 rfl w.heap.size 49 i0 (.agg #[.string ⟨#[]⟩, .string ⟨#[]⟩]) 2 32 Tryd.underlying27 hi hz0 hz1 hz2 rfl (by decide) _ _ _ rfl (HUV.out.alloc _) ⟨wr.heap.size + 1, 0, none⟩ 1 1 [.string nm, .string mm] rfl rfl (fun j u hu => by rw [Addr.add_lit, Nat.zero_add, World.cell?_alloc_at _ _ _ _ (by simp)]; simpa using hu) (by simp [Value.oneCell']) (by unfold maxLen; omega) (by omega) (by have := HW.out.size; simp; omega) ?_; intro v2 w2 hown' hgrow _; have HOw2 := Lib.hid hown'; have HGw2 := Lib.hid hgrow; clear hown' hgrow)
        | fail)
        have ho := HOw2.out
        rw [← HVQ.out] at ho
        obtain ⟨r1, r2, _⟩ := own9_app HWV.out HUV.out ho HGw2.out
        have R1 := Lib.hid r1
        have R2 := Lib.hid r2
        clear r1 r2 ho
        go_roundg (n - (k + 1))
        case measure => omega
        case rel => exact ⟨k + 1, by omega, by omega, by go_num, rfl, R1, (show Hid _ from by rw [HE1.out]; exact R2.out)⟩
    · have hltz : ¬ (k : Int) < (n : Int) := by omega
      obtain rfl : k = n := by omega
      have hu := HU.out
      rw [List.take_of_length_le (by have := HL.out; omega)] at hu
      have HF : Hid (Row9 (delE L s.data.toList) wr u7) := Row9.of_own hu
      clear hu
      go_wp2
      go_ret
      exact ⟨_, rfl, HF.out, HW.out⟩

set_option maxRecDepth 100000 in
set_option maxHeartbeats 8000000 in
theorem rput9_calls (v : Value) (L : Row7) (s h : ByteArray) (w : World) (h12 : L.length ≤ 1000) (hr : Rise7 L) (hh : h.size ≠ 0) (hu : Row9 L w v) :
    Calls Tryd.prog 10 #[v, .string s, .string h] w fun e w' => ∃ v, e = .returned v ∧ Row9 (putE L s.data.toList h.data.toList) w' v ∧ Below w.heap.size w w' := by
  have hnot : ∀ (x : Bool) (w : World), (Op.unary .not (.bool x)).run Tryd.prog w = .ok (.bool (!x)) w := fun _ _ => rfl
  have hne : ¬ h.toList = [] := fun e => hh (by rw [← size_list, ← ByteArray.toList_eq, e]; rfl)
  have hne2 : h.toList.isEmpty = false := by simpa using hne
  obtain ⟨A, c, rfl⟩ := hu.shape
  have HA := Lib.hid hu
  have HRI := Lib.hid hr
  clear hu hr
  obtain ⟨n, hn⟩ : ∃ n, n = L.length := ⟨_, rfl⟩
  rw [← hn] at HA h12 ⊢
  have HL := Lib.hid hn
  clear hn
  obtain ⟨i0, hi, hz0, hz1, hz2⟩ := info_parts infoPair9
  have HNQ : Hid (pr9 (s.data.toList, h.data.toList) = [.string s, .string h]) := by
    show _ = _
    unfold pr9
    rw [tx7_back, tx7_back]
  go_enter Tryd.func10, Tryd.ntmps10
  go_wp2
  clear hne hne2
  go_loopg [7, 8, 15] n (fun gg s7 s8 s15 wr => ∃ k : Nat, k ≤ n ∧ n - k ≤ gg ∧ s15 = .int .i64 k ∧ s8 = .bool (done9 L s.data.toList k) ∧ Hid (Below w.heap.size w wr) ∧ Hid (wr.ownsRow w.heap.size 49 2 s7 (out9 L s.data.toList h.data.toList k).length ((out9 L s.data.toList h.data.toList k).flatMap pr9)))
  case atStart => exact ⟨0, Nat.zero_le _, by omega, rfl, rfl, Below.refl _ _, World.ownsRow_nil _ _ _ _⟩
  case round =>
    obtain ⟨k, hk, hg, rfl, rfl, HW, HU⟩ := hrel
    have hlen := out9_length L s.data.toList h.data.toList k
    rw [← HL.out] at hlen
    by_cases hlt : k < n
    · have hltz : (k : Int) < (n : Int) := by omega
      have hkl : k < L.length := HL.out ▸ hlt
      obtain ⟨Ax, cx, e1, hcs⟩ := (HA.out.later HW.out).pv
      injection e1 with e1 e1n e1c
      clear e1n e1c
      obtain ⟨g, e2, x0, x1⟩ := hcs k hkl
      rw [e2] at e1
      subst e1
      clear hcs e2
      obtain ⟨q1, q2, q3, q4⟩ := out9_step (h := h.data.toList) (n := s.data.toList) HRI.out hkl
      have hst := done9_step (n := s.data.toList) hkl
      have HQ1 := Lib.hid q1
      have HQ2 := Lib.hid q2
      have HQ3 := Lib.hid q3
      have HQ4 := Lib.hid q4
      have HST := Lib.hid hst
      clear q1 q2 q3 q4 hst
      have HVQ : Hid (pr9 L[k] = [.string (tx7 L[k].1), .string (tx7 L[k].2)]) := rfl
      have HTL : Hid ((tx7 L[k].1).data.toList = L[k].1) := tx7_list _
      generalize hLk : L[k] = qk at *
      generalize tx7 qk.1 = nm at *
      generalize tx7 qk.2 = mm at *
      have HLK := Lib.hid hLk
      clear hLk
      have HWV := Lib.hid (below_next HW.out (below_alloc (Below.refl wr.heap.size wr) (.cells #[.string nm, .string mm] 49)))
      have HUV := Lib.hid (HU.out.alloc (.cells #[.string nm, .string mm] 49))
      rw [← HTL.out] at HQ1 HQ2 HQ3 HQ4 HST
      generalize hdn : done9 L s.data.toList k = dn at *
      clear hdn
      cases dn with
      | true =>
        obtain ⟨e1, e2⟩ := HQ4.out rfl
        have n2 : (nm.toList == s.toList) = false := by rw [Lib.toList_data, Lib.toList_data]; simpa using e2
        have n1 : ¬ nm.toList = s.toList := by simpa using n2
        have HE1 := Lib.hid e1
        clear e1 e2 HQ1 HQ2 HQ3 HQ4
        go_wp2_with (first
        | (at_builtin; refine wpList_append_own _ rfl _ _ 27 rfl w.heap.size 49 i0 (.agg #[.string ⟨#[]⟩, .string ⟨#[]⟩]) 2 32 Tryd.underlying27 hi hz0 hz1 hz2 rfl (by decide) _ _ _ rfl (HUV.out.alloc _) ⟨wr.heap.size + 1, 0, none⟩ 1 1 [.string nm, .string mm] rfl rfl (fun j u hu => by rw [Addr.add_lit, Nat.zero_add, World.cell?_alloc_at _ _ _ _ (by simp)]; simpa using hu) (by simp [Value.oneCell']) (by unfold maxLen; omega) (by omega) (by have := HW.out.size; simp; omega) ?_; intro v2 w2 hown' hgrow _; have HOw2 := Lib.hid hown'; have HGw2 := Lib.hid hgrow; clear hown' hgrow)
        | fail)
        have ho := HOw2.out
        rw [← HVQ.out] at ho
        obtain ⟨r1, r2, _⟩ := own9_app HWV.out HUV.out ho HGw2.out
        have R1 := Lib.hid r1
        have R2 := Lib.hid r2
        clear r1 r2 ho
        go_roundg (n - (k + 1))
        case measure => omega
        case rel => exact ⟨k + 1, by omega, by omega, by go_num, by rw [HST.out]; rfl, R1, (show Hid _ from by rw [HE1.out]; exact R2.out)⟩
      | false =>
        cases hbb : bytesBefore s.data.toList nm.data.toList with
        | true =>
          obtain ⟨e1, e2⟩ := HQ1.out rfl hbb
          have n2 : (nm.toList == s.toList) = false := by rw [Lib.toList_data, Lib.toList_data]; simpa using e2
          have n1 : ¬ nm.toList = s.toList := by simpa using n2
          have l1 : Op.bytesLess s.toList nm.toList = true := by rw [Lib.toList_data, Lib.toList_data, lessb9]; exact hbb
          have HE1 := Lib.hid e1
          have HBB := Lib.hid hbb
          have HNE := Lib.hid (own_ne9 HU.out)
          have HPC : Hid (∀ W, ((wr.alloc (.cells #[.string nm, .string mm] 49)).alloc (.cells #[.string s, .string h] 49)).grownBy W u7.ownBlock → W.cell? ⟨wr.heap.size, 0, none⟩ = some (.string nm) ∧ W.cell? ⟨wr.heap.size, 1, none⟩ = some (.string mm)) := fun W hg => by
            have hB : W.heap[wr.heap.size]? = some (.cells #[.string nm, .string mm] 49 (0, 0)) :=
              (hg.block wr.heap.size (by simp; omega) HNE.out).trans ((Below.heap_alloc _ _ _ (by simp)).trans (MapKept.heap_alloc wr _).1)
            simp [World.cell?, hB]
          have HAP1 : Hid (∀ v2 W, W.ownsRow w.heap.size 49 2 v2 ((out9 L s.data.toList h.data.toList k).length + 1) ((out9 L s.data.toList h.data.toList k).flatMap pr9 ++ [.string s, .string h]) → ((wr.alloc (.cells #[.string nm, .string mm] 49)).alloc (.cells #[.string s, .string h] 49)).grownBy W u7.ownBlock →
              Below w.heap.size w W ∧ W.ownsRow w.heap.size 49 2 v2 (out9 L s.data.toList h.data.toList k ++ [(s.data.toList, h.data.toList)]).length ((out9 L s.data.toList h.data.toList k ++ [(s.data.toList, h.data.toList)]).flatMap pr9)) := fun v2 W ho hg => by
            rw [← HNQ.out] at ho
            obtain ⟨r1, r2, _⟩ := own9_app HWV.out HUV.out ho hg
            exact ⟨r1, r2⟩
          clear e1 e2 hbb HQ1 HQ2 HQ3 HQ4
          go_wp2_with (first
          | (at_builtin; refine wpList_append_own _ rfl _ _ 27 rfl w.heap.size 49 i0 (.agg #[.string ⟨#[]⟩, .string ⟨#[]⟩]) 2 32 Tryd.underlying27 hi hz0 hz1 hz2 rfl (by decide) _ _ _ rfl (HUV.out.alloc _) ⟨wr.heap.size + 1, 0, none⟩ 1 1 [.string s, .string h] rfl rfl (fun j u hu => by rw [Addr.add_lit, Nat.zero_add, World.cell?_alloc_at _ _ _ _ (by simp)]; simpa using hu) (by simp [Value.oneCell']) (by unfold maxLen; omega) (by omega) (by have := HW.out.size; simp; omega) ?_; intro v2 w2 hown' hgrow _; have HOw2 := Lib.hid hown'; have HGw2 := Lib.hid hgrow; clear hown' hgrow; have hpc := HPC.out w2 HGw2.out; have hp0 := hpc.1; have hp1 := hpc.2; have hsz2 := HGw2.out.size; have HR2 := Lib.hid (HAP1.out v2 w2 HOw2.out HGw2.out); obtain ⟨g2, c2, rfl⟩ := ownsRow_succ HOw2.out)
          | (at_builtin; refine wpList_append_own _ rfl _ _ 27 rfl w.heap.size 49 i0 (.agg #[.string ⟨#[]⟩, .string ⟨#[]⟩]) 2 32 Tryd.underlying27 hi hz0 hz1 hz2 rfl (by decide) _ _ _ rfl (HOw2.out.alloc _) ⟨w2.heap.size, 0, none⟩ 1 1 [.string nm, .string mm] rfl rfl (fun j u hu => by rw [Addr.add_lit, Nat.zero_add, World.cell?_alloc_at _ _ _ _ (by simp)]; simpa using hu) (by simp [Value.oneCell']) (by unfold maxLen; omega) (by omega) (by have := HW.out.size; have := HR2.out.1.size; simp; omega) ?_; intro v3 w3 hown' hgrow _; have HOw3 := Lib.hid hown'; have HGw3 := Lib.hid hgrow; clear hown' hgrow)
          | fail)
          have ho := HOw3.out
          have hr2 := HR2.out.2
          rw [← HVQ.out] at ho
          have hln : (out9 L s.data.toList h.data.toList k ++ [(s.data.toList, h.data.toList)]).length = (out9 L s.data.toList h.data.toList k).length + 1 := by simp
          have hfm : (out9 L s.data.toList h.data.toList k ++ [(s.data.toList, h.data.toList)]).flatMap pr9 = (out9 L s.data.toList h.data.toList k).flatMap pr9 ++ [.string s, .string h] := by rw [List.flatMap_append, ← HNQ.out]; simp
          rw [← hln, ← hfm] at ho
          obtain ⟨r1, r2, _⟩ := own9_app HR2.out.1 hr2 ho HGw3.out
          have R1 := Lib.hid r1
          have R2 := Lib.hid r2
          clear r1 r2 ho hr2 hln hfm
          go_roundg (n - (k + 1))
          case measure => omega
          case rel => exact ⟨k + 1, by omega, by omega, by go_num, by rw [HST.out, HBB.out]; rfl, R1, (show Hid _ from by rw [HE1.out]; exact R2.out)⟩
        | false =>
          have l1 : Op.bytesLess s.toList nm.toList = false := by rw [Lib.toList_data, Lib.toList_data, lessb9]; exact hbb
          have HBB := Lib.hid hbb
          by_cases e : nm.data.toList = s.data.toList
          · have e1 := HQ2.out rfl hbb e
            have hs : nm = s := by rw [← tx7_back nm, e, tx7_back]
            subst hs
            have n2 : (nm.toList == nm.toList) = true := by simp
            have n1 : (nm.toList != nm.toList) = false := by simp
            have HE1 := Lib.hid e1
            clear e e1 hbb HQ1 HQ2 HQ3 HQ4
            go_wp2
            go_roundg (n - (k + 1))
            case measure => omega
            case rel => exact ⟨k + 1, by omega, by omega, by go_num, by rw [HST.out, HBB.out]; rfl, HWV, (show Hid _ from by rw [HE1.out]; exact HUV.out)⟩
          · have e1 := HQ3.out rfl hbb e
            have n2 : (nm.toList == s.toList) = false := by rw [Lib.toList_data, Lib.toList_data]; simpa using e
            have n1 : ¬ nm.toList = s.toList := by simpa using n2
            have HE1 := Lib.hid e1
            clear e e1 hbb HQ1 HQ2 HQ3 HQ4
            go_wp2_with (first
            | (at_builtin; refine wpList_append_own _ rfl _ _ 27 rfl w.heap.size 49 i0 (.agg #[.string ⟨#[]⟩, .string ⟨#[]⟩]) 2 32 Tryd.underlying27 hi hz0 hz1 hz2 rfl (by decide) _ _ _ rfl (HUV.out.alloc _) ⟨wr.heap.size + 1, 0, none⟩ 1 1 [.string nm, .string mm] rfl rfl (fun j u hu => by rw [Addr.add_lit, Nat.zero_add, World.cell?_alloc_at _ _ _ _ (by simp)]; simpa using hu) (by simp [Value.oneCell']) (by unfold maxLen; omega) (by omega) (by have := HW.out.size; simp; omega) ?_; intro v2 w2 hown' hgrow _; have HOw2 := Lib.hid hown'; have HGw2 := Lib.hid hgrow; clear hown' hgrow)
            | fail)
            have ho := HOw2.out
            rw [← HVQ.out] at ho
            obtain ⟨r1, r2, _⟩ := own9_app HWV.out HUV.out ho HGw2.out
            have R1 := Lib.hid r1
            have R2 := Lib.hid r2
            clear r1 r2 ho
            go_roundg (n - (k + 1))
            case measure => omega
            case rel => exact ⟨k + 1, by omega, by omega, by go_num, by rw [HST.out, HBB.out]; rfl, R1, (show Hid _ from by rw [HE1.out]; exact R2.out)⟩
    · have hltz : ¬ (k : Int) < (n : Int) := by omega
      obtain rfl : k = n := by omega
      have hend := out9_end (L := L) s.data.toList h.data.toList
      rw [← HL.out] at hend
      cases hdn : done9 L s.data.toList k with
      | true =>
        rw [hdn, if_pos rfl] at hend
        have HF : Hid (Row9 (putE L s.data.toList h.data.toList) wr u7) := by rw [hend]; exact Row9.of_own HU.out
        clear hend hdn
        go_wp2
        go_ret
        exact ⟨_, rfl, HF.out, HW.out⟩
      | false =>
        rw [hdn, if_neg (by decide)] at hend
        have HEN := Lib.hid hend
        clear hend hdn
        go_wp2_with (first
        | (at_builtin; refine wpList_append_own _ rfl _ _ 27 rfl w.heap.size 49 i0 (.agg #[.string ⟨#[]⟩, .string ⟨#[]⟩]) 2 32 Tryd.underlying27 hi hz0 hz1 hz2 rfl (by decide) _ _ _ rfl (HU.out.alloc _) ⟨wr.heap.size, 0, none⟩ 1 1 [.string s, .string h] rfl rfl (fun j u hu => by rw [Addr.add_lit, Nat.zero_add, World.cell?_alloc_at _ _ _ _ (by simp)]; simpa using hu) (by simp [Value.oneCell']) (by unfold maxLen; omega) (by omega) (by have := HW.out.size; simp; omega) ?_; intro v2 w2 hown' hgrow _; have HOw2 := Lib.hid hown'; have HGw2 := Lib.hid hgrow; clear hown' hgrow)
        | fail)
        have ho := HOw2.out
        rw [← HNQ.out] at ho
        obtain ⟨r1, r2, _⟩ := own9_app HW.out HU.out ho HGw2.out
        have HF : Hid (Row9 (putE L s.data.toList h.data.toList) w2 v2) := by rw [HEN.out]; exact Row9.of_own r2
        have R1 := Lib.hid r1
        clear r1 r2 ho
        go_ret
        exact ⟨_, rfl, HF.out, R1.out⟩
end Go.Proofs.YtiodbghokiajjaaDoor
