/-
  The texts that the laws of this seat share, part 5: what the code and the document's own answers tell, walked function by function.
  Conditions: each theorem's own.
-/
import Derived.Laws.Cover1
import Derived.Test.YthlgmkfofebbfaaGreatDoorNwrApBA
import Derived.Test.YthlgmkfofebbfaaGreatDoorNwrApBB
import Derived.Test.YthlgmkfofebbfaaGreatDoorNwrApBC
import Derived.Test.YthlgmkfofebbfaaGreatDoorNwrApBD
namespace Go.Proofs.YthlgmkfofebbfaaGreatDoor
open Go.RowKit Go.Maps

theorem rows_apart11 {w : World} {b1 b2 s1 s2 n1 n2 : Nat} {e1 e2 : TypeId} {v1 v2 : Value} {xs1 xs2 : List Value} (h1 : w.ownsRow b1 e1 s1 v1 n1 xs1) (h2 : w.ownsRow b2 e2 s2 v2 n2 xs2) (he : e1 ≠ e2) : v1.ownBlock = none ∨ v1.ownBlock ≠ v2.ownBlock := by
  rcases h1.2 with ⟨rfl, _⟩ | ⟨g, cap, cur, rfl, _, hg, _⟩
  · exact .inl rfl
  · rcases h2.2 with ⟨rfl, _⟩ | ⟨g2, cap2, cur2, rfl, _, hg2, _⟩
    · exact .inr (by simp [Value.ownBlock])
    · refine .inr fun e => ?_
      have : g = g2 := by simpa [Value.ownBlock] using e
      subst this
      rw [hg] at hg2
      injection hg2 with h
      injection h with _ h
      exact he h

def Gs11 (b : Nat) (w : World) (R : RowV W11) : Prop := ∀ p ∈ R, w.ownsRow b 9 1 (.slice p.2.ga p.2.gs.length p.2.gc) p.2.gs.length (p.2.gs.map encStr)
def plainR (R : RowV W11) : Usr11 := R.map fun p => (p.1, p.2.u)
def Rc11 (b : Nat) (R : RowV W11) (w : World) (v : Value) : Prop := w.ownsRow b 37 5 v R.length (R.flatMap cu11) ∧ Gs11 b w R
section
variable {w w' : World} {b : Nat} {R : RowV W11} {v : Value}
theorem Gs11.later (h : Gs11 b w R) (hb : Below w.heap.size w w') : Gs11 b w' R := fun p hp => ownsRow_below11 (h p hp) hb
theorem Gs11.keeps (h : Gs11 b w R) (hk : Keeps11 w w') : Gs11 b w' R := fun p hp => ownsRow_keeps11 (h p hp) hk (by decide) (by decide) (by decide)
theorem Gs11.low (h : Gs11 b w R) {a : Nat} (ha : a ≤ b) : Gs11 a w R := fun p hp => ownsRow_low10 (h p hp) ha
theorem Rc11.later (h : Rc11 b R w v) (hb : Below w.heap.size w w') : Rc11 b R w' v := ⟨ownsRow_below11 h.1 hb, h.2.later hb⟩
theorem Rc11.keeps (h : Rc11 b R w v) (hk : Keeps11 w w') : Rc11 b R w' v := ⟨ownsRow_keeps11 h.1 hk (by decide) (by decide) (by decide), h.2.keeps hk⟩
theorem Rc11.low (h : Rc11 b R w v) {a : Nat} (ha : a ≤ b) : Rc11 a R w v := ⟨ownsRow_low10 h.1 ha, h.2.low ha⟩
theorem Rc11.rw (h : Rc11 b R w v) : Rw11 R w v := Rw11.of_own h.1
theorem Rc11.nil (b : Nat) (w : World) : Rc11 b [] w (.slice none 0 0) := ⟨World.ownsRow_nil _ _ _ _, (fun _ h => nomatch h)⟩
theorem plainR_len (R : RowV W11) : (plainR R).length = R.length := List.length_map _
end

section
variable {w0 w : World} {D P M G : Nat} {A : Acc11} {L : Row7} {S : Grs10} {k : Nat}
set_option maxRecDepth 100000 in
set_option maxHeartbeats 2000000 in
theorem nall11_calls (ho : Own11 w0 w D P M G A L S) (hg : Good11 A L S k) : Calls Tryz.prog 25 #[.pointer (some ⟨D, 0, none⟩)] w fun e w' => ∃ v R, e = .returned v ∧ Rc11 w.heap.size R w' v ∧ plainR R = tell11 A L S ∧ Below w.heap.size w w' := by
  have HN := Lib.hid (nnames11_calls ho hg.rise hg.few)
  have HT : Hid (∀ W n, Below w.heap.size w W → n.size ≤ 9223372036854775807 → Calls Tryz.prog 54 #[.pointer (some ⟨D, 0, none⟩), .string n] W fun e w' => ∃ v, e = .returned v ∧ Told11 A L S n w w' v ∧ Below W.heap.size W w') := fun W n hb hn =>
    (tell11_calls n (ho.later hb) hg.grp hn).mono fun e w' ⟨v, he, ht, hb'⟩ => ⟨v, he, ht.low hb, hb'⟩
  have HG := Lib.hid hg
  have hfew := hg.few
  clear ho hg
  obtain ⟨i0, hi, hz0, hz1, hz2⟩ := info_parts infoUser11
  obtain ⟨n, hn⟩ : ∃ n, n = A.length := ⟨_, rfl⟩
  have HLN : Hid (A.length = n) := hn.symm
  rw [← hn] at hfew
  clear hn
  go_enter Tryz.func25, Tryz.ntmps25
  go_wp2_with fail
  with_reducible refine HN.out.mono ?_
  rintro e w1 ⟨v, rfl, hrow, hb⟩
  rw [names10_length, HLN.out] at hrow
  have hlen : (names10 A).length = n := by rw [names10_length]; exact HLN.out
  obtain ⟨AA, c, rfl⟩ : ∃ AA c, v = .slice AA n c := by
    have := row10_shape (ls := names10 A) (by rw [hlen]; exact hrow)
    rwa [hlen] at this
  have HRW := Lib.hid hrow
  have HB := Lib.hid hb
  have HLE := Lib.hid hlen
  clear hb hrow HN hlen
  go_wp2
  go_loopg [3, 5, 9] n (fun gg s3 _ s9 wr => ∃ k : Nat, k ≤ n ∧ n - k ≤ gg ∧ s9 = .int .i64 k ∧ Hid (Below w.heap.size w wr) ∧ Hid (wr.ownsRow w.heap.size 9 1 (.slice AA n c) n ((names10 A).map encStr)) ∧ ∃ R : RowV W11, R.length = k ∧ Hid (plainR R = (tell11 A L S).take k) ∧ Hid (wr.ownsRow w.heap.size 37 5 s3 k (R.flatMap cu11)) ∧ Hid (Gs11 w.heap.size wr R))
  case atStart => exact ⟨0, Nat.zero_le _, by omega, rfl, HB, HRW, [], rfl, rfl, World.ownsRow_nil _ _ _ _, (fun _ h => nomatch h)⟩
  case round =>
    obtain ⟨k, hk, hg, rfl, HW, HR2, R, hRl, HPL, HU, HGS⟩ := hrel
    by_cases hlt : k < n
    · have hltz : (k : Int) < (n : Int) := by omega
      have hkl : k < A.length := by have := HLN.out; omega
      have hr2 := HR2.out
      have hle := HLE.out
      obtain ⟨g, cx, e1, hcell⟩ := row10_at (ls := names10 A) (by rw [hle]; exact hr2) (Turns.refl (fun _ => False) wr) (fun _ _ _ _ _ _ f => f) (k := k) (by rw [hle]; exact hlt)
      injection e1 with e1 e2 e3
      subst e1
      subst e3
      clear e2
      have hnm : (names10 A)[k]'(by rw [hle]; exact hlt) = A[k].1 := by simp [names10]
      rw [hnm] at hcell
      have hna : A[k] ∈ A := List.getElem_mem hkl
      have hsz : (tx10 A[k].1).size ≤ 9223372036854775807 := by
        rw [tx10_size]
        exact Nat.le_trans (name10_len (HG.out.nm _ hna).1) (by decide)
      have HTK := Lib.hid (HT.out wr (tx10 A[k].1) HW.out hsz)
      have hgk : getV A A[k].1 = some A[k].2 := (getV_some HG.out.rise).2 hna
      have HTE : Hid (tell1 L S A[k].1 A[k].2 = ⟨hasA A A[k].1, getE L A[k].1, disA A A[k].1, of10 S A[k].1⟩) := by
        show _ = _
        unfold tell1 hasA disA
        rw [hgk]
      have HTT : Hid ((tell11 A L S).take (k + 1) = (tell11 A L S).take k ++ [(A[k].1, tell1 L S A[k].1 A[k].2)]) := by
        have hkt : k < (tell11 A L S).length := by rw [tell_len]; exact hkl
        show _ = _
        rw [List.take_succ_eq_append_getElem hkt]
        congr 1
        simp [tell11]
      have HNM : Hid ((tx10 A[k].1).data.toList = A[k].1) := tx10_list _
      generalize hkn : A[k].1 = kn at *
      generalize hsn : tx10 kn = sn at *
      have HSN := Lib.hid hsn
      clear hnm hr2 hle hsz hna hgk hkn hsn
      go_wp2_with fail
      with_reducible refine HTK.out.mono ?_
      rintro e w2 ⟨v, rfl, ⟨ga, gc, rfl, hgr⟩, hb⟩
      rw [HNM.out] at hgr ⊢
      have HGR := Lib.hid hgr
      have HU2 := Lib.hid (ownsRow_below11 HU.out hb)
      have HR3 := Lib.hid (ownsRow_below11 HR2.out hb)
      have HGS2 := Lib.hid (HGS.out.later hb)
      have HB2 := Lib.hid (below_next HW.out hb)
      clear hgr hb HTK hcell
      generalize hha : tx10 (hasA A kn) = sh at *
      have HHA : Hid (sh.data.toList = hasA A kn) := by rw [← hha]; exact tx10_list _
      generalize hhm : tx10 (getE L kn) = sm at *
      have HHM : Hid (sm.data.toList = getE L kn) := by rw [← hhm]; exact tx10_list _
      clear hha hhm
      generalize hdd : disA A kn = dd at *
      generalize hgs : of10 S kn = gs at *
      generalize hgl : gs.length = gl at *
      have HGL := Lib.hid hgl
      clear hdd hgs hgl
      have hrk : k ≤ 12 := by omega
      go_wp2_with (first
        | (at_builtin; refine wpList_append_own _ rfl _ _ 27 rfl w.heap.size 37 i0 (.agg #[.string ⟨#[]⟩, .string ⟨#[]⟩, .string ⟨#[]⟩, .bool false, .slice none 0 0]) 5 80 Tryz.underlying27 hi hz0 hz1 hz2 rfl (by decide) _ _ _ rfl (HU2.out.alloc _) ⟨w2.heap.size, 0, none⟩ 1 1 [.string sn, .string sh, .string sm, .bool dd, .slice ga gl gc] rfl rfl
            (fun j u hu => by rw [Addr.add_lit, Nat.zero_add, World.cell?_alloc_at _ _ _ _ rfl]; simpa using hu) (by simp [Value.oneCell']) (by unfold maxLen; omega) (by omega) (by have := HB2.out.size; simp; omega) ?_
           intro v' w3 hown' hgrow _
           have HO := Lib.hid hown'
           have HGW := Lib.hid hgrow
           clear hown' hgrow)
        | fail)
      go_roundg (n - (k + 1))
      case measure => omega
      case rel =>
        refine ⟨k + 1, by omega, by omega, by go_num, (show Hid _ from ?_), (show Hid _ from ?_), R ++ [(kn, ⟨sh, sm, dd, ga, gs, gc⟩)], by rw [List.length_append, hRl]; rfl, (show Hid _ from ?_), (show Hid _ from ?_), (show Hid _ from ?_)⟩
        · exact (below_next HB2.out (below_alloc (Below.refl _ _) _)).grown HGW.out (by have := HB2.out.size; simp; omega) (fun j hj => (HU2.out.lt j hj).1)
        · exact (HR3.out.alloc _).kept HGW.out (rows_apart11 HR3.out HU2.out (by decide))
        · show plainR _ = _
          rw [HTT.out, HTE.out, ← HPL.out]
          unfold plainR
          rw [List.map_append]
          show _ ++ [(kn, W11.u ⟨sh, sm, dd, ga, gs, gc⟩)] = _
          unfold W11.u
          rw [HHA.out, HHM.out]
        · rw [List.flatMap_append]
          have ho := HO.out
          have e : [(kn, (⟨sh, sm, dd, ga, gs, gc⟩ : W11))].flatMap cu11 = [.string sn, .string sh, .string sm, .bool dd, .slice ga gl gc] := by
            simp [cu11, HSN.out, HGL.out]
          rw [e]
          exact ho
        · intro p hp
          rcases List.mem_append.1 hp with hp | hp
          · have h := HGS2.out p hp
            exact (h.alloc _).kept HGW.out (rows_apart11 h HU2.out (by decide))
          · obtain rfl := List.mem_singleton.1 hp
            have h := HGR.out
            show World.ownsRow _ _ _ _ (.slice ga gs.length gc) gs.length (gs.map encStr)
            rw [HGL.out]
            exact (h.alloc _).kept HGW.out (rows_apart11 h HU2.out (by decide))
    · have hltz : ¬ (k : Int) < (n : Int) := by omega
      obtain rfl : k = n := by omega
      go_wp2
      go_ret
      have hp := HPL.out
      have hu := HU.out
      rw [← hRl] at hu
      rw [List.take_of_length_le (by rw [tell_len, HLN.out]; exact Nat.le_refl _)] at hp
      exact ⟨_, rfl, R, ⟨hu, HGS.out⟩, hp, HW.out⟩
end
end Go.Proofs.YthlgmkfofebbfaaGreatDoor


namespace Go.Proofs.YthlgmkfofebbfaaGreatDoor
open Go.RowKit Go.Maps

def Bx10 (W : World) (b : Nat) (v1 v2 : Value) : Prop := W.heap[b]? = some (.cells #[v1, v2] 113 (0, 0))
section
variable {W W' : World} {b : Nat} {v1 v2 : Value}
theorem Bx10.c0 (h : Bx10 W b v1 v2) : W.cell? ⟨b, 0, none⟩ = some v1 := by simp [World.cell?, show W.heap[b]? = _ from h]
theorem Bx10.c1 (h : Bx10 W b v1 v2) : W.cell? ⟨b, 1, none⟩ = some v2 := by simp [World.cell?, show W.heap[b]? = _ from h]
theorem Bx10.f0 (h : Bx10 W b v1 v2) : W.frozen? ⟨b, 0, none⟩ = false := by simp [World.frozen?, show W.heap[b]? = _ from h]
theorem Bx10.f1 (h : Bx10 W b v1 v2) : W.frozen? ⟨b, 1, none⟩ = false := by simp [World.frozen?, show W.heap[b]? = _ from h]
theorem Bx10.lt (h : Bx10 W b v1 v2) : b < W.heap.size := (Array.getElem?_eq_some_iff.1 h).1
theorem Bx10.later (h : Bx10 W b v1 v2) (hb : Below W.heap.size W W') : Bx10 W' b v1 v2 := (hb.block b h.lt).trans h
theorem Bx10.turns {S : Nat → Prop} (h : Bx10 W b v1 v2) (ht : Turns S W W') (hS : ¬ S b) : Bx10 W' b v1 v2 := (ht.block b h.lt hS).trans h
theorem bx10_new (W : World) (v1 v2 : Value) : Bx10 (W.alloc (.cells #[v1, v2] 113)) W.heap.size v1 v2 := (MapKept.heap_alloc W _).1
end
theorem filter_snoc10 {α : Type} (p : α → Bool) (L : List α) {k : Nat} (hk : k < L.length) : (L.take (k + 1)).filter p = (L.take k).filter p ++ if p L[k] then [L[k]] else [] := by
 rw [List.take_succ_eq_append_getElem hk, List.filter_append]
 cases h : p L[k] <;> simp [h]
theorem app10 {w1 wr w2 : World} {e : TypeId} {size n : Nat} {v : Value} {xs : List Value} {o : Obj} (hb : Below w1.heap.size w1 wr) (hu : wr.ownsRow w1.heap.size e size v n xs) (hg : (wr.alloc o).grownBy w2 v.ownBlock) : Below w1.heap.size w1 w2 :=
 (below_next hb (below_alloc (Below.refl _ _) _)).grown hg (by have := hb.size; simp; omega) (fun j hj => (hu.lt j hj).1)
theorem encStr_back10 (s : ByteArray) : Proofs.encStr s.data.toList = .string s := by
 show Value.string ⟨s.data.toList.toArray⟩ = _
 simp
theorem eqs10 {a b : ByteArray} (h : a.data.toList = b.data.toList) : (a.toList == b.toList) = true ∧ a.toList = b.toList := by
 have : a.toList = b.toList := by rw [Lib.toList_data, Lib.toList_data]; exact h
 exact ⟨by simpa using this, this⟩
theorem nes10 {a b : ByteArray} (h : ¬ a.data.toList = b.data.toList) : (a.toList == b.toList) = false ∧ ¬ a.toList = b.toList := by
 have : ¬ a.toList = b.toList := by rw [Lib.toList_data, Lib.toList_data]; exact h
 exact ⟨by simpa using this, this⟩

theorem insT_end10 {s : List UInt8} : ∀ {D : List (List UInt8)}, (∀ y ∈ D, bytesBefore s y = false) → insT s D = D ++ [s]
 | [], _ => rfl
 | y :: r, h => by
  unfold insT
  rw [h y (by simp), insT_end10 (fun z hz => h z (by simp [hz]))]
  simp
theorem insT_some10 {s v : List UInt8} : ∀ {D : List (List UInt8)}, (∃ y ∈ D, bytesBefore s y = true) → insT s (D ++ [v]) = insT s D ++ [v]
 | [], h => by obtain ⟨_, h, _⟩ := h; cases h
 | y :: r, h => by
  show insT s (y :: (r ++ [v])) = _
  unfold insT
  cases hb : bytesBefore s y
  ·
   have : ∃ z ∈ r, bytesBefore s z = true := by
    obtain ⟨z, hz, hzb⟩ := h
    rcases List.mem_cons.1 hz with rfl | hz
    ·
     rw [hb] at hzb; cases hzb
    ·
     exact ⟨z, hz, hzb⟩
   simp [insT_some10 this]
  ·
   simp
theorem insT_none10 {s v : List UInt8} : ∀ {D : List (List UInt8)}, (∀ y ∈ D, bytesBefore s y = false) → bytesBefore s v = true → insT s (D ++ [v]) = D ++ [s, v]
 | [], _, hv => by simp [insT, hv]
 | y :: r, h, hv => by
  show insT s (y :: (r ++ [v])) = _
  unfold insT
  rw [h y (by simp), insT_none10 (fun z hz => h z (by simp [hz])) hv]
  simp
def done10 (o : List (List UInt8)) (s : List UInt8) (k : Nat) : Bool := (o.take k).any fun t => bytesBefore s t
def out10 (o : List (List UInt8)) (s : List UInt8) (k : Nat) : List (List UInt8) := if done10 o s k then insT s (o.take k) else o.take k
theorem done10_step {o : List (List UInt8)} {s : List UInt8} {k : Nat} (hk : k < o.length) : done10 o s (k + 1) = (done10 o s k || bytesBefore s o[k]) := by
 unfold done10
 rw [List.take_succ_eq_append_getElem hk, List.any_append]
 simp
theorem out10_step {o : List (List UInt8)} {s : List UInt8} {k : Nat} (hk : k < o.length) :
  (done10 o s k = false → bytesBefore s o[k] = true → out10 o s (k + 1) = out10 o s k ++ [s] ++ [o[k]]) ∧
  (done10 o s k = false → bytesBefore s o[k] = false → out10 o s (k + 1) = out10 o s k ++ [o[k]]) ∧
  (done10 o s k = true → out10 o s (k + 1) = out10 o s k ++ [o[k]]) := by
 have hst := done10_step (s := s) hk
 have hno : done10 o s k = false → ∀ y ∈ o.take k, bytesBefore s y = false := fun hd y hy => by
  unfold done10 at hd
  simpa using List.any_eq_false.1 hd y hy
 refine ⟨fun hd hb => ?_, fun hd hb => ?_, fun hd => ?_⟩
 ·
  unfold out10
  rw [hst, hd, hb, List.take_succ_eq_append_getElem hk]
  simp only [Bool.false_or, if_true, Bool.false_eq_true, if_false]
  rw [insT_none10 (hno hd) hb]
  simp only [List.append_assoc, List.cons_append, List.nil_append]
 ·
  unfold out10
  rw [hst, hd, hb, List.take_succ_eq_append_getElem hk]
  simp
 ·
  obtain ⟨y, hy, hyb⟩ := List.any_eq_true.1 (show (o.take k).any (fun t => bytesBefore s t) = true from hd)
  unfold out10
  rw [hst, hd, List.take_succ_eq_append_getElem hk]
  simp only [Bool.true_or, if_true]
  exact insT_some10 ⟨y, hy, hyb⟩
theorem out10_end (o : List (List UInt8)) (s : List UInt8) : insT s o = if done10 o s o.length then out10 o s o.length else out10 o s o.length ++ [s] := by
 unfold out10
 rw [List.take_length]
 cases hd : done10 o s o.length
 ·
  simp only [Bool.false_eq_true, if_false]
  refine insT_end10 fun y hy => ?_
  unfold done10 at hd
  rw [List.take_length] at hd
  simpa using List.any_eq_false.1 hd y hy
 ·
  simp
theorem out10_length (o : List (List UInt8)) (s : List UInt8) (k : Nat) : (out10 o s k).length ≤ o.length + 1 := by
 have h1 : (o.take k).length ≤ o.length := by simp; omega
 unfold out10
 split
 ·
  rw [insT_length]; omega
 ·
  omega

set_option maxRecDepth 100000 in
set_option maxHeartbeats 4000000 in
theorem rsorted10_calls (v : Value) (N : List (List UInt8)) (w : World) (h12 : N.length ≤ 999) (hu : NmR w v N) :
  Calls Tryz.prog 100 #[v] w (Names10 (sortT N) w) := by
 have hnot : ∀ (x : Bool) (w : World), (Op.unary .not (.bool x)).run Tryz.prog w = .ok (.bool (!x)) w := fun _ _ => rfl
 obtain ⟨i0, hi, hz0, hz1, hz2⟩ := info_parts infoStr10
 obtain ⟨A, c, rfl⟩ := hu.shape
 have HA := Lib.hid hu
 clear hu
 obtain ⟨n, hn⟩ : ∃ n, n = N.length := ⟨_, rfl⟩
 rw [← hn] at HA h12 ⊢
 have HL := Lib.hid hn
 clear hn
 have HHS : Hid (∀ (v : Value) (O : List (List UInt8)) (s : ByteArray) (W : World), O.length ≤ 1000 → NmR W v O → Calls Tryz.prog 135 #[v, .string s] W (Tells5 (hasT O s.data.toList) W)) := rhas10_calls
 go_enter Tryz.func100, Tryz.ntmps100
 go_wp2
 go_loopg [3, 12] n (fun gg s3 s12 wr => ∃ k : Nat, k ≤ n ∧ n - k ≤ gg ∧ s12 = .int .i64 k ∧ Hid (Below w.heap.size w wr) ∧ Hid (wr.ownsRow w.heap.size 9 1 s3 (sortT (N.take k)).length ((sortT (N.take k)).map encStr)))
 case atStart => exact ⟨0, Nat.zero_le _, by omega, rfl, Below.refl _ _, World.ownsRow_nil _ _ _ _⟩
 case round =>
  obtain ⟨k, hk, hg, rfl, HWO, HO⟩ := hrel
  have hol : (sortT (N.take k)).length ≤ 999 := Nat.le_trans (sortT_le _) (by simp; omega)
  by_cases hlt : k < n
  ·
   have hltz : (k : Int) < (n : Int) := by omega
   have hkl : k < N.length := HL.out ▸ hlt
   obtain ⟨gb, cx, e2, x0⟩ := (HA.out.later HWO.out).at_ hkl
   injection e2 with e2 e2n e2c
   subst e2
   clear e2n e2c
   have HST : Hid (sortT (N.take (k + 1)) = sortStep (sortT (N.take k)) N[k]) := sortT_take hkl
   have HTL : Hid ((tx10 N[k]).data.toList = N[k]) := tx10_list _
   have HOR : Hid (NmR wr u3 (sortT (N.take k))) := NmR.of HO.out
   obtain ⟨o, ho⟩ : ∃ o, o = sortT (N.take k) := ⟨_, rfl⟩
   rw [← ho] at HST HO HOR hol
   clear ho
   generalize hNk : N[k] = qk at *
   generalize tx10 qk = ss at *
   clear hNk
   have HH := Lib.hid (HHS.out u3 o ss wr (by omega) HOR.out)
   obtain ⟨A3, c3, rfl⟩ := HOR.out.shape
   cases hh : hasT o ss.data.toList with
   | true =>
    rw [hh] at HH
    have HE : Hid (sortT (N.take (k + 1)) = o) := by
     show _ = _
     rw [HST.out, ← HTL.out]
     unfold sortStep
     rw [if_pos (hasT_iff.1 hh)]
    clear hh
    go_wp2_with fail
    with_reducible refine HH.out.mono ?_
    rintro e w2 ⟨rfl, hb⟩
    have HB := Lib.hid (below_next HWO.out hb)
    have HO2 := Lib.hid (ownsRow_below10 HO.out hb)
    clear hb HH
    go_wp2
    go_roundg (n - (k + 1))
    case measure => omega
    case rel => exact ⟨k + 1, by omega, by omega, by go_num, HB, (show Hid _ from by rw [HE.out]; exact HO2.out)⟩
   | false =>
    rw [hh] at HH
    have HE : Hid (sortT (N.take (k + 1)) = insT ss.data.toList o) := by
     show _ = _
     rw [HST.out, ← HTL.out]
     unfold sortStep
     rw [if_neg (hasT_false.1 hh)]
    clear hh
    go_wp2_with fail
    with_reducible refine HH.out.mono ?_
    rintro e wi ⟨rfl, hb⟩
    have HBI := Lib.hid (below_next HWO.out hb)
    have HOI := Lib.hid (HOR.out.later hb)
    clear hb HH
    obtain ⟨m, hm⟩ : ∃ m, m = o.length := ⟨_, rfl⟩
    rw [← hm] at HOI hol ⊢
    have HM := Lib.hid hm
    clear hm
    go_wp2
    go_loopg [6, 7, 21] m (fun gg s6 s7 s21 wr => ∃ j : Nat, j ≤ m ∧ m - j ≤ gg ∧ s21 = .int .i64 j ∧ s7 = .bool (done10 o ss.data.toList j) ∧ Hid (Below wi.heap.size wi wr) ∧ Hid (wr.ownsRow wi.heap.size 9 1 s6 (out10 o ss.data.toList j).length ((out10 o ss.data.toList j).map encStr)))
    case atStart => exact ⟨0, Nat.zero_le _, by omega, rfl, rfl, Below.refl _ _, World.ownsRow_nil _ _ _ _⟩
    case round =>
     obtain ⟨j, hj, hg, rfl, rfl, HW, HU⟩ := hrel
     have hlen := out10_length o ss.data.toList j
     rw [← HM.out] at hlen
     by_cases hlt2 : j < m
     ·
      have hltz2 : (j : Int) < (m : Int) := by omega
      have hjl : j < o.length := HM.out ▸ hlt2
      obtain ⟨gb3, cx3, e3, y0⟩ := (HOI.out.later HW.out).at_ hjl
      injection e3 with e3 e3n e3c
      subst e3
      clear e3n e3c
      obtain ⟨q1, q2, q3⟩ := out10_step (s := ss.data.toList) hjl
      have hst := done10_step (s := ss.data.toList) hjl
      have hTL : (tx10 o[j]).data.toList = o[j] := tx10_list _
      have hEK : encStr o[j] = .string (tx10 o[j]) := rfl
      rw [← hTL] at hst
      generalize hOj : o[j] = oj at *
      generalize tx10 oj = nm at *
      have HQ1 := Lib.hid q1
      have HQ2 := Lib.hid q2
      have HQ3 := Lib.hid q3
      have HST2 := Lib.hid hst
      have HTL2 := Lib.hid hTL
      have HEK := Lib.hid hEK
      clear q1 q2 q3 hst hTL hOj hEK
      generalize hdn : done10 o ss.data.toList j = dn at *
      clear hdn
      cases dn with
      | true =>
       have HE1 := Lib.hid (HQ3.out rfl)
       clear HQ1 HQ2 HQ3
       go_wp2_with (first
       | (at_builtin; refine wpList_append_own _ rfl _ _ 28 rfl wi.heap.size 9 i0 (.string ⟨#[]⟩) 1 16 Tryz.underlying28 hi hz0 hz1 hz2 rfl (by decide) _ _ _ rfl (HU.out.alloc _) ⟨wr.heap.size, 0, none⟩ 1 1 [.string nm] rfl rfl (fun j u hu => by rw [Addr.add_lit, Nat.zero_add, World.cell?_alloc_at _ _ _ _ (by simp)]; simpa using hu) (by simp [Value.oneCell']) (by unfold maxLen; omega) (by omega) (by have := HW.out.size; simp; omega) ?_; intro v2 w2 hown' hgrow _; have HOw2 := Lib.hid hown'; have HGw2 := Lib.hid hgrow; clear hown' hgrow)
       | fail)
       have ho := HOw2.out
       rw [← HEK.out] at ho
       have R1 := Lib.hid (app10 HW.out HU.out HGw2.out)
       have R2 : Hid (w2.ownsRow wi.heap.size 9 1 v2 (out10 o ss.data.toList (j + 1)).length ((out10 o ss.data.toList (j + 1)).map encStr)) := by
        show World.ownsRow _ _ _ _ _ _ _
        rw [HE1.out]
        simpa using ho
       clear ho
       go_roundg (m - (j + 1))
       case measure => omega
       case rel => exact ⟨j + 1, by omega, by omega, by go_num, by rw [HST2.out]; rfl, R1, R2⟩
      | false =>
       cases hbb : bytesBefore ss.data.toList nm.data.toList with
       | true =>
        have l1 : Op.bytesLess ss.toList nm.toList = true := by rw [Lib.toList_data, Lib.toList_data, lessb10]; exact hbb
        have HE1 := Lib.hid (HQ1.out rfl (by rw [← HTL2.out]; exact hbb))
        have HBB := Lib.hid hbb
        clear hbb HQ1 HQ2 HQ3
        go_wp2_with (first
        | (at_builtin; refine wpList_append_own _ rfl _ _ 28 rfl wi.heap.size 9 i0 (.string ⟨#[]⟩) 1 16 Tryz.underlying28 hi hz0 hz1 hz2 rfl (by decide) _ _ _ rfl (HU.out.alloc _) ⟨wr.heap.size, 0, none⟩ 1 1 [.string ss] rfl rfl (fun j u hu => by rw [Addr.add_lit, Nat.zero_add, World.cell?_alloc_at _ _ _ _ (by simp)]; simpa using hu) (by simp [Value.oneCell']) (by unfold maxLen; omega) (by omega) (by have := HW.out.size; simp; omega) ?_; intro v2 w2 hown' hgrow _; have HOw2 := Lib.hid hown'; have HGw2 := Lib.hid hgrow; clear hown' hgrow; have HB2 := Lib.hid (app10 HW.out HU.out HGw2.out))
        | (at_builtin; refine wpList_append_own _ rfl _ _ 28 rfl wi.heap.size 9 i0 (.string ⟨#[]⟩) 1 16 Tryz.underlying28 hi hz0 hz1 hz2 rfl (by decide) _ _ _ rfl (HOw2.out.alloc _) ⟨w2.heap.size, 0, none⟩ 1 1 [.string nm] rfl rfl (fun j u hu => by rw [Addr.add_lit, Nat.zero_add, World.cell?_alloc_at _ _ _ _ (by simp)]; simpa using hu) (by simp [Value.oneCell']) (by unfold maxLen; omega) (by omega) (by have := HW.out.size; have := HB2.out.size; simp; omega) ?_; intro v3 w3 hown' hgrow _; have HOw3 := Lib.hid hown'; have HGw3 := Lib.hid hgrow; clear hown' hgrow)
        | fail)
        have hb3 := app10 HB2.out HOw2.out HGw3.out
        have ho3 := HOw3.out
        rw [← HEK.out, ← encStr_back10 ss] at ho3
        have R1 := Lib.hid hb3
        have R2 : Hid (w3.ownsRow wi.heap.size 9 1 v3 (out10 o ss.data.toList (j + 1)).length ((out10 o ss.data.toList (j + 1)).map encStr)) := by
         show World.ownsRow _ _ _ _ _ _ _
         rw [HE1.out]
         simpa using ho3
        clear hb3 ho3
        go_roundg (m - (j + 1))
        case measure => omega
        case rel => exact ⟨j + 1, by omega, by omega, by go_num, by rw [HST2.out, HBB.out]; rfl, R1, R2⟩
       | false =>
        have l1 : Op.bytesLess ss.toList nm.toList = false := by rw [Lib.toList_data, Lib.toList_data, lessb10]; exact hbb
        have HE1 := Lib.hid (HQ2.out rfl (by rw [← HTL2.out]; exact hbb))
        have HBB := Lib.hid hbb
        clear hbb HQ1 HQ2 HQ3
        go_wp2_with (first
        | (at_builtin; refine wpList_append_own _ rfl _ _ 28 rfl wi.heap.size 9 i0 (.string ⟨#[]⟩) 1 16 Tryz.underlying28 hi hz0 hz1 hz2 rfl (by decide) _ _ _ rfl (HU.out.alloc _) ⟨wr.heap.size, 0, none⟩ 1 1 [.string nm] rfl rfl (fun j u hu => by rw [Addr.add_lit, Nat.zero_add, World.cell?_alloc_at _ _ _ _ (by simp)]; simpa using hu) (by simp [Value.oneCell']) (by unfold maxLen; omega) (by omega) (by have := HW.out.size; simp; omega) ?_; intro v2 w2 hown' hgrow _; have HOw2 := Lib.hid hown'; have HGw2 := Lib.hid hgrow; clear hown' hgrow)
        | fail)
        have ho := HOw2.out
        rw [← HEK.out] at ho
        have R1 := Lib.hid (app10 HW.out HU.out HGw2.out)
        have R2 : Hid (w2.ownsRow wi.heap.size 9 1 v2 (out10 o ss.data.toList (j + 1)).length ((out10 o ss.data.toList (j + 1)).map encStr)) := by
         show World.ownsRow _ _ _ _ _ _ _
         rw [HE1.out]
         simpa using ho
        clear ho
        go_roundg (m - (j + 1))
        case measure => omega
        case rel => exact ⟨j + 1, by omega, by omega, by go_num, by rw [HST2.out, HBB.out]; rfl, R1, R2⟩
     ·
      have hltz2 : ¬ (j : Int) < (m : Int) := by omega
      obtain rfl : j = m := by omega
      have hend := out10_end o ss.data.toList
      rw [← HM.out] at hend
      cases hdn : done10 o ss.data.toList j with
      | true =>
       rw [hdn, if_pos rfl] at hend
       have R1 := Lib.hid (below_next HBI.out HW.out)
       have R2 : Hid (wr.ownsRow w.heap.size 9 1 u6 (sortT (N.take (k + 1))).length ((sortT (N.take (k + 1))).map encStr)) := by
        show World.ownsRow _ _ _ _ _ _ _
        rw [HE.out, hend]
        exact ownsRow_low10 HU.out HBI.out.size
       clear hend hdn
       go_wp2
       go_roundg (n - (k + 1))
       case measure => omega
       case rel => exact ⟨k + 1, by omega, by omega, by go_num, R1, R2⟩
      | false =>
       rw [hdn, if_neg (by decide)] at hend
       have HEN := Lib.hid hend
       clear hend hdn
       go_wp2_with (first
       | (at_builtin; refine wpList_append_own _ rfl _ _ 28 rfl wi.heap.size 9 i0 (.string ⟨#[]⟩) 1 16 Tryz.underlying28 hi hz0 hz1 hz2 rfl (by decide) _ _ _ rfl (HU.out.alloc _) ⟨wr.heap.size, 0, none⟩ 1 1 [.string ss] rfl rfl (fun j u hu => by rw [Addr.add_lit, Nat.zero_add, World.cell?_alloc_at _ _ _ _ (by simp)]; simpa using hu) (by simp [Value.oneCell']) (by unfold maxLen; omega) (by omega) (by have := HW.out.size; simp; omega) ?_; intro v2 w2 hown' hgrow _; have HOw2 := Lib.hid hown'; have HGw2 := Lib.hid hgrow; clear hown' hgrow)
       | fail)
       have ho := HOw2.out
       rw [← encStr_back10 ss] at ho
       have R1 := Lib.hid (below_next HBI.out (app10 HW.out HU.out HGw2.out))
       have R2 : Hid (w2.ownsRow w.heap.size 9 1 v2 (sortT (N.take (k + 1))).length ((sortT (N.take (k + 1))).map encStr)) := by
        show World.ownsRow _ _ _ _ _ _ _
        rw [HE.out, HEN.out]
        refine ownsRow_low10 ?_ HBI.out.size
        simpa using ho
       clear ho
       go_roundg (n - (k + 1))
       case measure => omega
       case rel => exact ⟨k + 1, by omega, by omega, by go_num, R1, R2⟩
  ·
   have hltz : ¬ (k : Int) < (n : Int) := by omega
   obtain rfl : k = n := by omega
   have hu := HO.out
   rw [List.take_of_length_le (by have := HL.out; omega)] at hu
   have HF : Hid (Names10 (sortT N) w (.returned u3) wr) := ⟨_, rfl, hu, HWO.out⟩
   clear hu
   go_wp2
   go_ret
   exact HF.out
end Go.Proofs.YthlgmkfofebbfaaGreatDoor


namespace Go.Proofs.YthlgmkfofebbfaaGreatDoor
open Go.RowKit Go.Maps

abbrev TG : TypeId := 113
def ddrE (N : List (List UInt8)) (g : List UInt8) : Int := if name5 g then (if hasT N g then 0 else 8) else 10
end Go.Proofs.YthlgmkfofebbfaaGreatDoor


namespace Go.Proofs.YthlgmkfofebbfaaGreatDoor
open Go.RowKit Go.Maps

def KeepG (W w' : World) : Prop := ∀ (k : Nat) (c : Array Value) (T : TypeId) (fr : Nat × Nat), W.heap[k]? = some (.cells c T fr) → T ≠ TG → w'.heap[k]? = some (.cells c T fr)
theorem KeepG.trans {a b c : World} (h : KeepG a b) (k : KeepG b c) : KeepG a c := fun i x T fr hi hT => k i x T fr (h i x T fr hi hT) hT
theorem KeepG.of_below {W w' : World} (hb : Below W.heap.size W w') : KeepG W w' := fun k _ _ _ h _ => (hb.block k (Array.getElem?_eq_some_iff.1 h).1).trans h
theorem Bx10.keep {W : World} {b : Nat} {v1 v2 : Value} (h : Bx10 W b v1 v2) (i : Nat) (x : Value) : KeepG W (W.setCell ⟨b, i, none⟩ x) := fun k c T fr hk hT => by
 refine (Below.heap_setCell _ _ _ _ (fun e => hT ?_)).trans hk
 have e' : k = b := e
 rw [e', show W.heap[b]? = _ from h] at hk
 injection hk with hk
 injection hk with _ hk
 exact hk.symm
theorem ownsRow_keepG {w w' : World} {b : Nat} {e size n : Nat} {v : Value} {xs : List Value} (h : w.ownsRow b e size v n xs) (hk : KeepG w w') (he : e ≠ TG) : w'.ownsRow b e size v n xs := by
 refine ⟨h.1, ?_⟩
 rcases h.2 with hn | ⟨g, cap, cur, e1, h0, hg, hr⟩
 ·
  exact .inl hn
 ·
  exact .inr ⟨g, cap, cur, e1, h0, hk g _ _ _ hg he, hr⟩
theorem NmR.keepG {w w' : World} {v : Value} {N : List (List UInt8)} (h : NmR w v N) (hk : KeepG w w') : NmR w' v N := ownsRow_keepG h hk (by decide)
theorem MbR.keepG {w w' : World} {v : Value} {M : List Who10} (h : MbR w v M) (hk : KeepG w w') : MbR w' v M := ownsRow_keepG h hk (by decide)
theorem Bx10.set0 {W : World} {b : Nat} {v1 v2 : Value} (h : Bx10 W b v1 v2) (x : Value) : Bx10 (W.setCell ⟨b, 0, none⟩ x) b x v2 := by
 have h' : W.heap[b]? = some (.cells #[v1, v2] TG (0, 0)) := h
 have hl := h.lt
 have := h'
 rw [Array.getElem?_eq_getElem hl] at this
 injection this with this
 show (W.setCell ⟨b, 0, none⟩ x).heap[b]? = _
 simp [World.setCell, hl, Array.getElem_modify, this]
theorem Bx10.set1 {W : World} {b : Nat} {v1 v2 : Value} (h : Bx10 W b v1 v2) (x : Value) : Bx10 (W.setCell ⟨b, 1, none⟩ x) b v1 x := by
 have h' : W.heap[b]? = some (.cells #[v1, v2] TG (0, 0)) := h
 have hl := h.lt
 have := h'
 rw [Array.getElem?_eq_getElem hl] at this
 injection this with this
 show (W.setCell ⟨b, 1, none⟩ x).heap[b]? = _
 simp [World.setCell, hl, Array.getElem_modify, this]
theorem Bx10.other {W : World} {b c i : Nat} {v1 v2 : Value} (h : Bx10 W b v1 v2) (hne : b ≠ c) (x : Value) : Bx10 (W.setCell ⟨c, i, none⟩ x) b v1 v2 := (Below.heap_setCell _ _ _ _ hne).trans h
theorem Below.cellG {w wr : World} {b i : Nat} (hb : Below w.heap.size w wr) (h : w.heap.size ≤ b) (x : Value) : Below w.heap.size w (wr.setCell ⟨b, i, none⟩ x) := hb.setCell (p := ⟨b, i, none⟩) h x
theorem fin2 {w wr : World} {b : Nat} {u1 u2 : Value} (hb : Below w.heap.size w wr) (hr : Bx10 wr b u1 u2) (h : w.heap.size ≤ b) (x y : Value) :
  Bx10 ((wr.setCell ⟨b, 0, none⟩ x).setCell ⟨b, 1, none⟩ y) b x y ∧ Below w.heap.size w ((wr.setCell ⟨b, 0, none⟩ x).setCell ⟨b, 1, none⟩ y) ∧ KeepG wr ((wr.setCell ⟨b, 0, none⟩ x).setCell ⟨b, 1, none⟩ y) :=
 ⟨(hr.set0 x).set1 y, Below.cellG (Below.cellG hb h x) h y, (hr.keep 0 x).trans ((hr.set0 x).keep 1 y)⟩
theorem fin3 {w wr : World} {a b i : Nat} {v1 v2 u1 u2 : Value} (hb : Below w.heap.size w wr) (hx : Bx10 wr a v1 v2) (hr : Bx10 wr b u1 u2) (ha : w.heap.size ≤ a) (h : w.heap.size ≤ b) (hab : b ≠ a) (f x y : Value) :
  Bx10 (((wr.setCell ⟨a, i, none⟩ f).setCell ⟨b, 0, none⟩ x).setCell ⟨b, 1, none⟩ y) b x y ∧ Below w.heap.size w (((wr.setCell ⟨a, i, none⟩ f).setCell ⟨b, 0, none⟩ x).setCell ⟨b, 1, none⟩ y) ∧ KeepG wr (((wr.setCell ⟨a, i, none⟩ f).setCell ⟨b, 0, none⟩ x).setCell ⟨b, 1, none⟩ y) := by
 obtain ⟨h1, h2, h3⟩ := fin2 (Below.cellG hb ha f) (hr.other hab f (i := i)) h x y
 exact ⟨h1, h2, (hx.keep i f).trans h3⟩
end Go.Proofs.YthlgmkfofebbfaaGreatDoor


namespace Go.Proofs.YthlgmkfofebbfaaGreatDoor
open Go.RowKit Go.Maps

def dmaE (N : List (List UInt8)) (g : List UInt8) : Int := if name5 g then (if hasT N g then 9 else if 6 ≤ N.length then 7 else 0) else 10
def dmaN (N : List (List UInt8)) (g : List UInt8) : List (List UInt8) := if dmaE N g = 0 then sortT (N ++ [g]) else N
def Doc10 (E : Int) (N : List (List UInt8)) (M : List Who10) (w : World) (e : Ending) (w' : World) : Prop :=
 ∃ u1 u2, e = .returned (.tuple #[.agg #[u1, u2], .int .i64 E]) ∧ NmR w' u1 N ∧ MbR w' u2 M ∧ Below w.heap.size w w'
theorem own_empty10 (W : World) (T : TypeId) (size : Nat) : (W.alloc (.cells #[] T)).ownsRow W.heap.size T size (.slice (some ⟨W.heap.size, 0, none⟩) 0 0) 0 [] :=
 ⟨by simp, .inr ⟨W.heap.size, 0, #[], rfl, Nat.le_refl _, (MapKept.heap_alloc W _).1, Nat.le_refl _, Nat.zero_le _, by simp, by simp⟩⟩

set_option maxRecDepth 100000 in
set_option maxHeartbeats 4000000 in
theorem rmake10_calls (v1 v2 : Value) (N : List (List UInt8)) (M : List Who10) (s : ByteArray) (w : World) (hN : N.length ≤ 900) (hs : s.size ≤ 1000) (h1 : NmR w v1 N) (h2 : MbR w v2 M) :
  Calls Tryz.prog 95 #[.agg #[v1, v2], .string s] w (Doc10 (dmaE N s.data.toList) (dmaN N s.data.toList) M w) := by
 obtain ⟨i0, hi, hz0, hz1, hz2⟩ := info_parts infoStr10
 obtain ⟨A1, c1, rfl⟩ := h1.shape
 obtain ⟨A, c, rfl⟩ := h2.shape
 have hb0 : Below w.heap.size w (w.alloc (.cells #[.slice A1 N.length c1, .slice A M.length c] TG)) := below_alloc (Below.refl _ _) _
 have hbx : Bx10 (w.alloc (.cells #[.slice A1 N.length c1, .slice A M.length c] TG)) w.heap.size (.slice A1 N.length c1) (.slice A M.length c) := bx10_new _ _ _
 have HN1 := Lib.hid h1
 have HA := Lib.hid h2
 have HB0 := Lib.hid hb0
 have HBX := Lib.hid hbx
 clear h1 h2 hb0 hbx
 obtain ⟨n1, hn1⟩ : ∃ n1, n1 = N.length := ⟨_, rfl⟩
 obtain ⟨n, hn⟩ : ∃ n, n = M.length := ⟨_, rfl⟩
 rw [← hn1] at HN1 HB0 HBX hN ⊢
 rw [← hn] at HA HB0 HBX ⊢
 have HL1 := Lib.hid hn1
 have HL := Lib.hid hn
 clear hn hn1

 have HR0 : Hid (Bx10 ((w.alloc (.cells #[.slice A1 n1 c1, .slice A n c] TG)).alloc (.cells #[.slice none 0 0, .slice none 0 0] TG)) (w.heap.size + 1) (.slice none 0 0) (.slice none 0 0)) := by
  have := bx10_new (w.alloc (.cells #[.slice A1 n1 c1, .slice A n c] TG)) (.slice none 0 0) (.slice none 0 0)
  rwa [World.size_alloc] at this
 have HBX2 := Lib.hid (HBX.out.later (below_alloc (Below.refl _ _) (.cells #[.slice none 0 0, .slice none 0 0] TG)))
 have HB2 := Lib.hid (below_next HB0.out (below_alloc (Below.refl _ _) (.cells #[.slice none 0 0, .slice none 0 0] TG)))
 have HN := Lib.hid (fun W => rname_calls s W hs)
 have HHS : Hid (∀ W, Below w.heap.size w W → Calls Tryz.prog 135 #[.slice A1 n1 c1, .string s] W (Tells5 (hasT N s.data.toList) W)) := fun W hb => rhas10_calls _ N s W (by have := HL1.out; omega) (HN1.out.later hb)
 unfold dmaN dmaE
 cases hname : name5 s.data.toList with
 | false =>
  rw [hname] at HN
  clear hname HHS
  show Calls _ _ _ _ (Doc10 10 N M w)
  go_enter Tryz.func95, Tryz.ntmps95
  go_wp2_with fail
  generalize (w.alloc (.cells #[.slice A1 n1 c1, .slice A n c] TG)).alloc (.cells #[.slice none 0 0, .slice none 0 0] TG) = w1 at *
  with_reducible refine (HN.out _).mono ?_
  rintro e w2 ⟨rfl, hw⟩
  replace hw := hw.symm
  subst hw
  have hx := HBX2.out.later (Below.refl _ _)
  have hr := HR0.out.later (Below.refl _ _)
  have k0 := hx.c0
  have k1 := hx.c1
  have r0 := hr.c0
  have r1 := hr.c1
  have rf0 := hr.f0
  have rf1 := hr.f1
  have HF := Lib.hid (fin2 HB2.out hr (Nat.le_succ _) (.slice A1 n1 c1) (.slice A n c))
  have HQ1 := Lib.hid (HN1.out.later HB2.out)
  have HQ2 := Lib.hid (HA.out.later HB2.out)
  clear hx hr
  go_wp2
  have z0 := HF.out.1.c0
  have z1 := HF.out.1.c1
  refine bodyPost_ret (v := .tuple #[.agg #[.slice A1 n1 c1, .slice A n c], .int .i64 10]) ?_ rfl ⟨_, _, rfl, HQ1.out.keepG HF.out.2.2, HQ2.out.keepG HF.out.2.2, HF.out.2.1⟩
  simp [results, Tryz.results95, go_sem, z0, z1]
 | true =>
  rw [hname] at HN
  clear hname
  cases hh : hasT N s.data.toList with
  | true =>
   rw [hh] at HHS
   clear hh
   show Calls _ _ _ _ (Doc10 9 N M w)
   go_enter Tryz.func95, Tryz.ntmps95
   go_wp2_with fail
   generalize (w.alloc (.cells #[.slice A1 n1 c1, .slice A n c] TG)).alloc (.cells #[.slice none 0 0, .slice none 0 0] TG) = w1 at *
   with_reducible refine (HN.out _).mono ?_
   rintro e w2 ⟨rfl, hw⟩
   replace hw := hw.symm
   subst hw
   have k9 := HBX2.out.c0
   have HH := Lib.hid (HHS.out w1 HB2.out)
   clear HHS
   go_wp2_with fail
   with_reducible refine HH.out.mono ?_
   rintro e w3 ⟨rfl, hb⟩
   have HB3 := Lib.hid (below_next HB2.out hb)
   clear HH k9
   have hx := HBX2.out.later hb
   have hr := HR0.out.later hb
   have k0 := hx.c0
   have k1 := hx.c1
   have r0 := hr.c0
   have r1 := hr.c1
   have rf0 := hr.f0
   have rf1 := hr.f1
   have HF := Lib.hid (fin2 HB3.out hr (Nat.le_succ _) (.slice A1 n1 c1) (.slice A n c))
   have HQ1 := Lib.hid (HN1.out.later HB3.out)
   have HQ2 := Lib.hid (HA.out.later HB3.out)
   clear hx hr hb
   go_wp2
   have z0 := HF.out.1.c0
   have z1 := HF.out.1.c1
   refine bodyPost_ret (v := .tuple #[.agg #[.slice A1 n1 c1, .slice A n c], .int .i64 9]) ?_ rfl ⟨_, _, rfl, HQ1.out.keepG HF.out.2.2, HQ2.out.keepG HF.out.2.2, HF.out.2.1⟩
   simp [results, Tryz.results95, go_sem, z0, z1]
  | false =>
   rw [hh] at HHS
   clear hh
   by_cases h6 : 6 ≤ N.length
   ·
    have e7 : (if true = true then if false = true then (9 : Int) else if 6 ≤ N.length then 7 else 0 else 10) = 7 := by simp [h6]
    rw [e7, if_neg (by decide)]
    have z6 : (n1 : Int) ≥ 6 := by have := HL1.out; omega
    have x6 : decide ((n1 : Int) ≥ 6) = true := decide_eq_true z6
    clear e7 h6
    go_enter Tryz.func95, Tryz.ntmps95
    go_wp2_with fail
    generalize (w.alloc (.cells #[.slice A1 n1 c1, .slice A n c] TG)).alloc (.cells #[.slice none 0 0, .slice none 0 0] TG) = w1 at *
    with_reducible refine (HN.out _).mono ?_
    rintro e w2 ⟨rfl, hw⟩
    replace hw := hw.symm
    subst hw
    have k9 := HBX2.out.c0
    have HH := Lib.hid (HHS.out w1 HB2.out)
    clear HHS
    go_wp2_with fail
    with_reducible refine HH.out.mono ?_
    rintro e w3 ⟨rfl, hb⟩
    have HB3 := Lib.hid (below_next HB2.out hb)
    clear HH k9
    have hx := HBX2.out.later hb
    have hr := HR0.out.later hb
    have k0 := hx.c0
    have k1 := hx.c1
    have r0 := hr.c0
    have r1 := hr.c1
    have rf0 := hr.f0
    have rf1 := hr.f1
    have HF := Lib.hid (fin2 HB3.out hr (Nat.le_succ _) (.slice A1 n1 c1) (.slice A n c))
    have HQ1 := Lib.hid (HN1.out.later HB3.out)
    have HQ2 := Lib.hid (HA.out.later HB3.out)
    clear hx hr hb
    go_wp2
    have z0 := HF.out.1.c0
    have z1 := HF.out.1.c1
    refine bodyPost_ret (v := .tuple #[.agg #[.slice A1 n1 c1, .slice A n c], .int .i64 7]) ?_ rfl ⟨_, _, rfl, HQ1.out.keepG HF.out.2.2, HQ2.out.keepG HF.out.2.2, HF.out.2.1⟩
    simp [results, Tryz.results95, go_sem, z0, z1]
   ·
    have e0 : (if true = true then if false = true then (9 : Int) else if 6 ≤ N.length then 7 else 0 else 10) = 0 := by simp [h6]
    rw [e0, if_pos rfl]
    have z6 : ¬ (n1 : Int) ≥ 6 := by have := HL1.out; omega
    have x6 : decide ((n1 : Int) ≥ 6) = false := decide_eq_false z6
    clear e0 h6
    go_enter Tryz.func95, Tryz.ntmps95
    go_wp2_with fail
    generalize (w.alloc (.cells #[.slice A1 n1 c1, .slice A n c] TG)).alloc (.cells #[.slice none 0 0, .slice none 0 0] TG) = w1 at *
    with_reducible refine (HN.out _).mono ?_
    rintro e w2 ⟨rfl, hw⟩
    replace hw := hw.symm
    subst hw
    have k9 := HBX2.out.c0
    have HH := Lib.hid (HHS.out w1 HB2.out)
    clear HHS
    go_wp2_with fail
    with_reducible refine HH.out.mono ?_
    rintro e w3 ⟨rfl, hb⟩
    have HB3 := Lib.hid (below_next HB2.out hb)
    clear HH k9
    have k0 := (HBX2.out.later hb).c0
    have kl := (HBX2.out.later hb).lt
    have HEM : Hid ((w3.alloc (.cells #[] 9)).ownsRow 0 9 1 (.slice (some ⟨w3.heap.size, 0, none⟩) 0 0) 0 []) := ownsRow_low10 (own_empty10 w3 9 1) (Nat.zero_le _)
    have HUP : Hid (∀ A4 c4 (w4 : World), w4.ownsRow 0 9 1 (.slice A4 (0 + n1) c4) (0 + n1) ([] ++ N.map encStr) → (w3.alloc (.cells #[] 9)).grownBy w4 (Value.ownBlock (.slice (some ⟨w3.heap.size, 0, none⟩) 0 0)) → (Value.ownBlock (.slice A4 (0 + n1) c4) = Value.ownBlock (.slice (some ⟨w3.heap.size, 0, none⟩) 0 0) ∨ Value.ownBlock (.slice A4 (0 + n1) c4) = some (w3.alloc (.cells #[] 9)).heap.size) →
      w4.ownsRow w3.heap.size 9 1 (.slice A4 n1 c4) n1 (N.map encStr) ∧ Below w3.heap.size w3 w4) := fun A4 c4 w4 h1 h2 h3 => by
     rw [Nat.zero_add, List.nil_append] at h1
     rw [Nat.zero_add] at h3
     refine ⟨own_up10 h1 (fun j hj => ?_), (below_alloc (Below.refl _ _) _).grown h2 (by simp) (fun j hj => by cases hj; exact Nat.le_refl _)⟩
     rcases h3 with h3 | h3
     ·
      rw [h3] at hj; cases hj; exact Nat.le_refl _
     ·
      rw [h3] at hj; injection hj with hj; rw [← hj]; simp
    have HSRC : Hid (Src Tryz.prog 1 28 (.slice A1 n1 c1) n1 (N.map encStr) (w3.alloc (.cells #[] 9))) := by
     have := ((HN1.out.later HB3.out).later (below_alloc (Below.refl _ _) (.cells #[] 9))).src
     rwa [← HL1.out] at this
    have HBX3 := Lib.hid (HBX2.out.later hb)
    have HR3 := Lib.hid (HR0.out.later hb)
    clear hb
    go_wp2_with (first
    | (at_builtin; refine wpList_append_src _ rfl (.tmp 20) (.tmp 22) 28 28 (by rfl) 9 i0 _ 1 16 Tryz.underlying28 hi hz0 hz1 hz2 rfl (.slice (some ⟨w3.heap.size, 0, none⟩) 0 0) 0 [] (by rfl) HEM.out (.slice A1 n1 c1) n1 (N.map encStr) (by rfl) HSRC.out (by simp only [maxLen]; omega) (by omega) ?_; intro A4 c4 w4 ho4 hg4 ha4; have HO4 := Lib.hid (HUP.out A4 c4 w4 ho4 hg4 ha4).1; have HB4 := Lib.hid (HUP.out A4 c4 w4 ho4 hg4 ha4).2; clear ho4 hg4 ha4)
    | (at_builtin; refine wpList_append_own _ rfl (.tmp 23) (.tmp 25) 28 rfl w3.heap.size 9 i0 (.string ⟨#[]⟩) 1 16 Tryz.underlying28 hi hz0 hz1 hz2 rfl (by decide) _ _ _ rfl (HO4.out.alloc _) ⟨w4.heap.size, 0, none⟩ 1 1 [.string s] rfl rfl (fun j u hu => by rw [Addr.add_lit, Nat.zero_add, World.cell?_alloc_at _ _ _ _ (by simp)]; simpa using hu) (by simp [Value.oneCell']) (by unfold maxLen; omega) (by omega) (by have := HB4.out.size; simp; omega) ?_; intro v5 w5 ho5 hg5 _; have HO5 := Lib.hid ho5; have HB5 := Lib.hid (app10 HB4.out HO4.out hg5); clear ho5 hg5)
    | fail)
    have hrow : NmR w5 v5 (N ++ [s.data.toList]) := by
     have := ownsRow_low10 HO5.out (Nat.zero_le _)
     rw [← encStr_back10 s] at this
     show World.ownsRow _ _ _ _ _ _ _
     rw [List.length_append, ← HL1.out]
     simpa using this
    have HSR := Lib.hid (rsorted10_calls v5 (N ++ [s.data.toList]) w5 (by rw [List.length_append, ← HL1.out]; simp; omega) hrow)
    obtain ⟨A5, c5, rfl⟩ := hrow.shape
    clear hrow
    go_wp2_with fail
    with_reducible refine HSR.out.mono ?_
    rintro e w6 ⟨v6, rfl, hr6, hb6⟩
    have HNM : Hid (NmR w6 v6 (sortT (N ++ [s.data.toList]))) := NmR.of hr6
    obtain ⟨A6, c6, rfl⟩ := HNM.out.shape
    have HB36 := Lib.hid (below_next HB5.out hb6)
    have HB6 := Lib.hid (below_next HB3.out HB36.out)
    have HML := Lib.hid (HA.out.later HB6.out)
    have hx := HBX3.out.later HB36.out
    have hr := HR3.out.later HB36.out
    have k0 := hx.c0
    have k1 := hx.c1
    have kf0 := hx.f0
    have r0 := hr.c0
    have r1 := hr.c1
    have rf0 := hr.f0
    have rf1 := hr.f1
    have HF := Lib.hid (fin3 (i := 0) HB6.out hx hr (Nat.le_refl _) (Nat.le_succ _) (by omega) (.slice A6 (sortT (N ++ [s.data.toList])).length c6) (.slice A6 (sortT (N ++ [s.data.toList])).length c6) (.slice A n c))
    clear hx hr hr6 hb6 HSR
    generalize (sortT (N ++ [s.data.toList])).length = q6 at *
    go_wp2
    have z0 := HF.out.1.c0
    have z1 := HF.out.1.c1
    refine bodyPost_ret (v := .tuple #[.agg #[.slice A6 q6 c6, .slice A n c], .int .i64 0]) ?_ rfl ⟨_, _, rfl, HNM.out.keepG HF.out.2.2, HML.out.keepG HF.out.2.2, HF.out.2.1⟩
    simp [results, Tryz.results95, go_sem, z0, z1]
end Go.Proofs.YthlgmkfofebbfaaGreatDoor


namespace Go.Proofs.YthlgmkfofebbfaaGreatDoor
open Go.RowKit Go.Maps

def ddrN (N : List (List UInt8)) (g : List UInt8) : List (List UInt8) := if ddrE N g = 0 then dropN N g else N
def ddrM (N : List (List UInt8)) (M : List Who10) (g : List UInt8) : List Who10 := if ddrE N g = 0 then dropM M g else M

set_option maxRecDepth 100000 in
set_option maxHeartbeats 4000000 in
theorem rdrop10_calls (v1 v2 : Value) (N : List (List UInt8)) (M : List Who10) (s : ByteArray) (w : World) (hN : N.length ≤ 900) (hM : M.length ≤ 900) (hs : s.size ≤ 1000) (h1 : NmR w v1 N) (h2 : MbR w v2 M) :
  Calls Tryz.prog 96 #[.agg #[v1, v2], .string s] w (Doc10 (ddrE N s.data.toList) (ddrN N s.data.toList) (ddrM N M s.data.toList) w) := by
 obtain ⟨i0, hi, hz0, hz1, hz2⟩ := info_parts infoStr10
 obtain ⟨A1, c1, rfl⟩ := h1.shape
 obtain ⟨A, c, rfl⟩ := h2.shape
 have hb0 : Below w.heap.size w (w.alloc (.cells #[.slice A1 N.length c1, .slice A M.length c] TG)) := below_alloc (Below.refl _ _) _
 have hbx : Bx10 (w.alloc (.cells #[.slice A1 N.length c1, .slice A M.length c] TG)) w.heap.size (.slice A1 N.length c1) (.slice A M.length c) := bx10_new _ _ _
 have HN1 := Lib.hid h1
 have HA := Lib.hid h2
 have HB0 := Lib.hid hb0
 have HBX := Lib.hid hbx
 clear h1 h2 hb0 hbx
 obtain ⟨n1, hn1⟩ : ∃ n1, n1 = N.length := ⟨_, rfl⟩
 obtain ⟨n, hn⟩ : ∃ n, n = M.length := ⟨_, rfl⟩
 rw [← hn1] at HN1 HB0 HBX hN ⊢
 rw [← hn] at HA HB0 HBX hM ⊢
 have HL1 := Lib.hid hn1
 have HL := Lib.hid hn
 clear hn hn1

 have HR0 : Hid (Bx10 ((w.alloc (.cells #[.slice A1 n1 c1, .slice A n c] TG)).alloc (.cells #[.slice none 0 0, .slice none 0 0] TG)) (w.heap.size + 1) (.slice none 0 0) (.slice none 0 0)) := by
  have := bx10_new (w.alloc (.cells #[.slice A1 n1 c1, .slice A n c] TG)) (.slice none 0 0) (.slice none 0 0)
  rwa [World.size_alloc] at this
 have HBX2 := Lib.hid (HBX.out.later (below_alloc (Below.refl _ _) (.cells #[.slice none 0 0, .slice none 0 0] TG)))
 have HB2 := Lib.hid (below_next HB0.out (below_alloc (Below.refl _ _) (.cells #[.slice none 0 0, .slice none 0 0] TG)))
 have HN := Lib.hid (fun W => rname_calls s W hs)
 have HHS : Hid (∀ W, Below w.heap.size w W → Calls Tryz.prog 135 #[.slice A1 n1 c1, .string s] W (Tells5 (hasT N s.data.toList) W)) := fun W hb => rhas10_calls _ N s W (by have := HL1.out; omega) (HN1.out.later hb)
 unfold ddrN ddrM ddrE
 cases hname : name5 s.data.toList with
 | false =>
  rw [hname] at HN
  clear hname HHS
  show Calls _ _ _ _ (Doc10 10 N M w)
  go_enter Tryz.func96, Tryz.ntmps96
  go_wp2_with fail
  generalize (w.alloc (.cells #[.slice A1 n1 c1, .slice A n c] TG)).alloc (.cells #[.slice none 0 0, .slice none 0 0] TG) = w1 at *
  with_reducible refine (HN.out _).mono ?_
  rintro e w2 ⟨rfl, hw⟩
  replace hw := hw.symm
  subst hw
  have hx := HBX2.out.later (Below.refl _ _)
  have hr := HR0.out.later (Below.refl _ _)
  have k0 := hx.c0
  have k1 := hx.c1
  have r0 := hr.c0
  have r1 := hr.c1
  have rf0 := hr.f0
  have rf1 := hr.f1
  have HF := Lib.hid (fin2 HB2.out hr (Nat.le_succ _) (.slice A1 n1 c1) (.slice A n c))
  have HQ1 := Lib.hid (HN1.out.later HB2.out)
  have HQ2 := Lib.hid (HA.out.later HB2.out)
  clear hx hr
  go_wp2
  have z0 := HF.out.1.c0
  have z1 := HF.out.1.c1
  refine bodyPost_ret (v := .tuple #[.agg #[.slice A1 n1 c1, .slice A n c], .int .i64 10]) ?_ rfl ⟨_, _, rfl, HQ1.out.keepG HF.out.2.2, HQ2.out.keepG HF.out.2.2, HF.out.2.1⟩
  simp [results, Tryz.results96, go_sem, z0, z1]
 | true =>
  rw [hname] at HN
  clear hname
  cases hh : hasT N s.data.toList with
  | false =>
   rw [hh] at HHS
   clear hh
   show Calls _ _ _ _ (Doc10 8 N M w)
   go_enter Tryz.func96, Tryz.ntmps96
   go_wp2_with fail
   generalize (w.alloc (.cells #[.slice A1 n1 c1, .slice A n c] TG)).alloc (.cells #[.slice none 0 0, .slice none 0 0] TG) = w1 at *
   with_reducible refine (HN.out _).mono ?_
   rintro e w2 ⟨rfl, hw⟩
   replace hw := hw.symm
   subst hw
   have k9 := HBX2.out.c0
   have HH := Lib.hid (HHS.out w1 HB2.out)
   clear HHS
   go_wp2_with fail
   with_reducible refine HH.out.mono ?_
   rintro e w3 ⟨rfl, hb⟩
   have HB3 := Lib.hid (below_next HB2.out hb)
   clear HH k9
   have hx := HBX2.out.later hb
   have hr := HR0.out.later hb
   have k0 := hx.c0
   have k1 := hx.c1
   have r0 := hr.c0
   have r1 := hr.c1
   have rf0 := hr.f0
   have rf1 := hr.f1
   have HF := Lib.hid (fin2 HB3.out hr (Nat.le_succ _) (.slice A1 n1 c1) (.slice A n c))
   have HQ1 := Lib.hid (HN1.out.later HB3.out)
   have HQ2 := Lib.hid (HA.out.later HB3.out)
   clear hx hr hb
   go_wp2
   have z0 := HF.out.1.c0
   have z1 := HF.out.1.c1
   refine bodyPost_ret (v := .tuple #[.agg #[.slice A1 n1 c1, .slice A n c], .int .i64 8]) ?_ rfl ⟨_, _, rfl, HQ1.out.keepG HF.out.2.2, HQ2.out.keepG HF.out.2.2, HF.out.2.1⟩
   simp [results, Tryz.results96, go_sem, z0, z1]
  | true =>
   rw [hh] at HHS
   clear hh
   show Calls _ _ _ _ (Doc10 0 (dropN N s.data.toList) (dropM M s.data.toList) w)
   go_enter Tryz.func96, Tryz.ntmps96
   go_wp2_with fail
   generalize (w.alloc (.cells #[.slice A1 n1 c1, .slice A n c] TG)).alloc (.cells #[.slice none 0 0, .slice none 0 0] TG) = w1 at *
   with_reducible refine (HN.out _).mono ?_
   rintro e w2 ⟨rfl, hw⟩
   replace hw := hw.symm
   subst hw
   have k9 := HBX2.out.c0
   have HH := Lib.hid (HHS.out w1 HB2.out)
   clear HHS HN
   go_wp2_with fail
   with_reducible refine HH.out.mono ?_
   rintro e w3 ⟨rfl, hb⟩
   have HB3 := Lib.hid (below_next HB2.out hb)
   have HBX3 := Lib.hid (HBX2.out.later hb)
   have HR3 := Lib.hid (HR0.out.later hb)
   have k0 := HBX3.out.c0
   clear HH k9 hb HBX2 HR0 HB2
   go_wp2
   go_loopg [6, 25] n1 (fun gg sl si wr => ∃ k : Nat, k ≤ n1 ∧ n1 - k ≤ gg ∧ si = .int .i64 k ∧ Hid (Below w3.heap.size w3 wr) ∧ Hid (wr.ownsRow w3.heap.size 9 1 sl ((N.take k).filter (fun x => !(x == s.data.toList))).length (((N.take k).filter (fun x => !(x == s.data.toList))).map encStr)))
   case atStart => exact ⟨0, Nat.zero_le _, by omega, rfl, Below.refl _ _, World.ownsRow_nil _ _ _ _⟩
   case round =>
    obtain ⟨k, hk, hg, rfl, HW, HU⟩ := hrel
    have hlen : ((N.take k).filter (fun x => !(x == s.data.toList))).length ≤ n1 := Nat.le_trans (List.length_filter_le _ _) (by simp; omega)
    by_cases hlt : k < n1
    ·
     have hltz : (k : Int) < (n1 : Int) := by omega
     have hkl : k < N.length := HL1.out ▸ hlt
     obtain ⟨gb, cx, e2, x0⟩ := (HN1.out.later (below_next HB3.out HW.out)).at_ hkl
     injection e2 with e2 e2n e2c
     subst e2
     clear e2n e2c
     have HST : Hid ((N.take (k + 1)).filter (fun x => !(x == s.data.toList)) = (N.take k).filter (fun x => !(x == s.data.toList)) ++ if (fun x => !(x == s.data.toList)) N[k] then [N[k]] else []) := filter_snoc10 _ N hkl
     have HTL : Hid ((tx10 N[k]).data.toList = N[k]) := tx10_list _
     have HEG : Hid (encStr N[k] = .string (tx10 N[k])) := rfl
     generalize hMk : N[k] = qk at *
     generalize tx10 qk = gm at *
     clear hMk
     by_cases e1 : gm.data.toList = s.data.toList
     ·
      obtain ⟨a1, a2⟩ := eqs10 e1
      have cg : (qk == s.data.toList) = true := by rw [← HTL.out]; simpa using e1
      have HE : Hid ((N.take (k + 1)).filter (fun x => !(x == s.data.toList)) = (N.take k).filter (fun x => !(x == s.data.toList))) := by
       show _ = _
       rw [HST.out, if_neg (by simp [cg]), List.append_nil]
      clear cg e1
      go_wp2
      go_roundg (n1 - (k + 1))
      case measure => omega
      case rel => exact ⟨k + 1, by omega, by omega, by go_num, HW, (show Hid _ from by rw [HE.out]; exact HU.out)⟩
     ·
      obtain ⟨a1, a2⟩ := nes10 e1
      have cg : (qk == s.data.toList) = false := by rw [← HTL.out]; simpa using e1
      have HE : Hid ((N.take (k + 1)).filter (fun x => !(x == s.data.toList)) = (N.take k).filter (fun x => !(x == s.data.toList)) ++ [qk]) := by
       show _ = _
       rw [HST.out, if_pos (by simp [cg])]
      clear cg e1
      go_wp2_with (first
      | (at_builtin; refine wpList_append_own _ rfl _ _ 28 rfl w3.heap.size 9 i0 (.string ⟨#[]⟩) 1 16 Tryz.underlying28 hi hz0 hz1 hz2 rfl (by decide) _ _ _ rfl (HU.out.alloc _) ⟨wr.heap.size, 0, none⟩ 1 1 [.string gm] rfl rfl (fun j u hu => by rw [Addr.add_lit, Nat.zero_add, World.cell?_alloc_at _ _ _ _ (by simp)]; simpa using hu) (by simp [Value.oneCell']) (by unfold maxLen; omega) (by omega) (by have := HW.out.size; simp; omega) ?_; intro v2 w2 hown' hgrow _; have HOw2 := Lib.hid hown'; have HGw2 := Lib.hid hgrow; clear hown' hgrow)
      | fail)
      have ho := HOw2.out
      rw [← HEG.out] at ho
      have R1 := Lib.hid (app10 HW.out HU.out HGw2.out)
      have R2 : Hid (w2.ownsRow w3.heap.size 9 1 v2 ((N.take (k + 1)).filter (fun x => !(x == s.data.toList))).length (((N.take (k + 1)).filter (fun x => !(x == s.data.toList))).map encStr)) := by
       show World.ownsRow _ _ _ _ _ _ _
       rw [HE.out]
       simpa using ho
      clear ho
      go_roundg (n1 - (k + 1))
      case measure => omega
      case rel => exact ⟨k + 1, by omega, by omega, by go_num, R1, R2⟩
    ·
     have hltz : ¬ (k : Int) < (n1 : Int) := by omega
     obtain rfl : k = n1 := by omega
     have hu := HU.out
     rw [List.take_of_length_le (by have := HL1.out; omega)] at hu
     have HNM : Hid (NmR wr u6 (dropN N s.data.toList)) := NmR.of hu
     have HBW := Lib.hid (below_next HB3.out HW.out)
     have HX2 := Lib.hid (HBX3.out.later HW.out)
     have HY2 := Lib.hid (HR3.out.later HW.out)
     have k1 := HX2.out.c1
     obtain ⟨A6, c6, rfl⟩ := HNM.out.shape
     generalize (dropN N s.data.toList).length = q6 at *
     clear hu HW HU hlen
     go_wp2
     have HCW := HBW
     clear HBW
     generalize hwm : wr = w1 at *
     have HBW := HCW
     clear HCW hwm
     obtain ⟨i0, hi, hz0, hz1, hz2⟩ := info_parts infoMem10
     go_loopg [9, 40] n (fun gg sl si wr => ∃ k : Nat, k ≤ n ∧ n - k ≤ gg ∧ si = .int .i64 k ∧ Hid (Below w1.heap.size w1 wr) ∧ Hid (wr.ownsRow w1.heap.size 144 2 sl ((M.take k).filter (fun m => !(m.1 == s.data.toList))).length (((M.take k).filter (fun m => !(m.1 == s.data.toList))).flatMap pm10)))
     case atStart => exact ⟨0, Nat.zero_le _, by omega, rfl, Below.refl _ _, World.ownsRow_nil _ _ _ _⟩
     case round =>
      obtain ⟨k, hk, hg, rfl, HW, HU⟩ := hrel
      have hlen : ((M.take k).filter (fun m => !(m.1 == s.data.toList))).length ≤ n := Nat.le_trans (List.length_filter_le _ _) (by simp; omega)
      by_cases hlt : k < n
      ·
       have hltz : (k : Int) < (n : Int) := by omega
       have hkl : k < M.length := HL.out ▸ hlt
       obtain ⟨gb, cx, e2, x0, x1⟩ := (HA.out.later (below_next HBW.out HW.out)).at_ hkl
       injection e2 with e2 e2n e2c
       subst e2
       clear e2n e2c
       have HST : Hid ((M.take (k + 1)).filter (fun m => !(m.1 == s.data.toList)) = (M.take k).filter (fun m => !(m.1 == s.data.toList)) ++ if (fun m => !(m.1 == s.data.toList)) M[k] then [M[k]] else []) := filter_snoc10 _ M hkl
       have HUV := Lib.hid (HU.out.alloc (.cells #[.string (tx10 M[k].1), .string (tx10 M[k].2)] 144))
       have HTL : Hid ((tx10 M[k].1).data.toList = M[k].1) := tx10_list _
       have HTM : Hid ((tx10 M[k].2).data.toList = M[k].2) := tx10_list _
       have HEG : Hid (encStr M[k].1 = .string (tx10 M[k].1)) := rfl
       have HEN : Hid (encStr M[k].2 = .string (tx10 M[k].2)) := rfl
       have HEV : Hid (pm10 M[k] = [.string (tx10 M[k].1), .string (tx10 M[k].2)]) := rfl
       generalize hMk : M[k] = qk at *
       generalize tx10 qk.1 = gm at *
       generalize tx10 qk.2 = nm at *
       clear hMk
       have HWV := Lib.hid (below_next HW.out (below_alloc (Below.refl wr.heap.size wr) (.cells #[.string gm, .string nm] 144)))
       by_cases e1 : gm.data.toList = s.data.toList
       ·
        obtain ⟨a1, a2⟩ := eqs10 e1
        have cg : (qk.1 == s.data.toList) = true := by rw [← HTL.out]; simpa using e1
        have HE : Hid ((M.take (k + 1)).filter (fun m => !(m.1 == s.data.toList)) = (M.take k).filter (fun m => !(m.1 == s.data.toList))) := by
         show _ = _
         rw [HST.out, if_neg (by simp [cg]), List.append_nil]
        go_wp2
        go_roundg (n - (k + 1))
        case measure => omega
        case rel => exact ⟨k + 1, by omega, by omega, by go_num, HWV, (show Hid _ from by rw [HE.out]; exact HUV.out)⟩
       ·
        obtain ⟨a1, a2⟩ := nes10 e1
        have cg : (qk.1 == s.data.toList) = false := by rw [← HTL.out]; simpa using e1
        have HE : Hid ((M.take (k + 1)).filter (fun m => !(m.1 == s.data.toList)) = (M.take k).filter (fun m => !(m.1 == s.data.toList)) ++ [qk]) := by
         show _ = _
         rw [HST.out, if_pos (by simp [cg])]
        go_wp2_with (first
        | (at_builtin; refine wpList_append_own _ rfl _ _ 111 rfl w1.heap.size 144 i0 (.agg #[.string ⟨#[]⟩, .string ⟨#[]⟩]) 2 32 Tryz.underlying111 hi hz0 hz1 hz2 rfl (by decide) _ _ _ rfl (HUV.out.alloc _) ⟨wr.heap.size + 1, 0, none⟩ 1 1 [.string gm, .string nm] rfl rfl (fun j u hu => by rw [Addr.add_lit, Nat.zero_add, World.cell?_alloc_at _ _ _ _ (by simp)]; simpa using hu) (by simp [Value.oneCell']) (by unfold maxLen; omega) (by omega) (by have := HW.out.size; simp; omega) ?_; intro v2 w2 hown' hgrow _; have HOw2 := Lib.hid hown'; have HGw2 := Lib.hid hgrow; clear hown' hgrow)
        | fail)
        have ho := HOw2.out
        rw [← HEV.out] at ho
        have R1 := Lib.hid (app10 HWV.out HUV.out HGw2.out)
        have R2 : Hid (w2.ownsRow w1.heap.size 144 2 v2 ((M.take (k + 1)).filter (fun m => !(m.1 == s.data.toList))).length (((M.take (k + 1)).filter (fun m => !(m.1 == s.data.toList))).flatMap pm10)) := by
         show World.ownsRow _ _ _ _ _ _ _
         rw [HE.out]
         simpa using ho
        clear ho
        go_roundg (n - (k + 1))
        case measure => omega
        case rel => exact ⟨k + 1, by omega, by omega, by go_num, R1, R2⟩
      ·
       have hltz : ¬ (k : Int) < (n : Int) := by omega
       obtain rfl : k = n := by omega
       have hu := HU.out
       rw [List.take_of_length_le (by have := HL.out; omega)] at hu
       have HML : Hid (MbR wr u9 (dropM M s.data.toList)) := MbR.of hu
       have HBR := Lib.hid (below_next HBW.out HW.out)
       have HNF := Lib.hid (HNM.out.later HW.out)
       have hr := HY2.out.later HW.out
       have r0 := hr.c0
       have r1 := hr.c1
       have rf0 := hr.f0
       have rf1 := hr.f1
       obtain ⟨AL, cL, rfl⟩ := HML.out.shape
       generalize (dropM M s.data.toList).length = q at *
       have HF := Lib.hid (fin2 HBR.out hr (Nat.le_succ _) (.slice A6 q6 c6) (.slice AL q cL))
       clear hu hr HU
       go_wp2
       have z0 := HF.out.1.c0
       have z1 := HF.out.1.c1
       refine bodyPost_ret (v := .tuple #[.agg #[.slice A6 q6 c6, .slice AL q cL], .int .i64 0]) ?_ rfl ⟨_, _, rfl, HNF.out.keepG HF.out.2.2, HML.out.keepG HF.out.2.2, HF.out.2.1⟩
       simp [results, Tryz.results96, go_sem, z0, z1]
end Go.Proofs.YthlgmkfofebbfaaGreatDoor


namespace Go.Proofs.YthlgmkfofebbfaaGreatDoor
open Go.RowKit Go.Maps

abbrev TD11 : TypeId := 30
def Bx11 (W : World) (b : Nat) (v1 v2 : Value) : Prop := W.heap[b]? = some (.cells #[v1, v2] 30 (0, 0))
section
variable {W W' : World} {b : Nat} {v1 v2 : Value}
theorem Bx11.c0 (h : Bx11 W b v1 v2) : W.cell? ⟨b, 0, none⟩ = some v1 := by simp [World.cell?, show W.heap[b]? = _ from h]
theorem Bx11.c1 (h : Bx11 W b v1 v2) : W.cell? ⟨b, 1, none⟩ = some v2 := by simp [World.cell?, show W.heap[b]? = _ from h]
theorem Bx11.f0 (h : Bx11 W b v1 v2) : W.frozen? ⟨b, 0, none⟩ = false := by simp [World.frozen?, show W.heap[b]? = _ from h]
theorem Bx11.f1 (h : Bx11 W b v1 v2) : W.frozen? ⟨b, 1, none⟩ = false := by simp [World.frozen?, show W.heap[b]? = _ from h]
theorem Bx11.lt (h : Bx11 W b v1 v2) : b < W.heap.size := (Array.getElem?_eq_some_iff.1 h).1
theorem Bx11.later (h : Bx11 W b v1 v2) (hb : Below W.heap.size W W') : Bx11 W' b v1 v2 := (hb.block b h.lt).trans h
theorem Bx11.turns {S : Nat → Prop} (h : Bx11 W b v1 v2) (ht : Turns S W W') (hS : ¬ S b) : Bx11 W' b v1 v2 := (ht.block b h.lt hS).trans h
theorem bx11_new (W : World) (v1 v2 : Value) : Bx11 (W.alloc (.cells #[v1, v2] 30)) W.heap.size v1 v2 := (MapKept.heap_alloc W _).1
end
def KeepD11 (W w' : World) : Prop := ∀ (k : Nat) (c : Array Value) (T : TypeId) (fr : Nat × Nat), W.heap[k]? = some (.cells c T fr) → T ≠ TD11 → w'.heap[k]? = some (.cells c T fr)
theorem KeepD11.trans {a b c : World} (h : KeepD11 a b) (k : KeepD11 b c) : KeepD11 a c := fun i x T fr hi hT => k i x T fr (h i x T fr hi hT) hT
theorem KeepD11.of_below {W w' : World} (hb : Below W.heap.size W w') : KeepD11 W w' := fun k _ _ _ h _ => (hb.block k (Array.getElem?_eq_some_iff.1 h).1).trans h
theorem Bx11.keep {W : World} {b : Nat} {v1 v2 : Value} (h : Bx11 W b v1 v2) (i : Nat) (x : Value) : KeepD11 W (W.setCell ⟨b, i, none⟩ x) := fun k c T fr hk hT => by
 refine (Below.heap_setCell _ _ _ _ (fun e => hT ?_)).trans hk
 have e' : k = b := e
 rw [e', show W.heap[b]? = _ from h] at hk
 injection hk with hk
 injection hk with _ hk
 exact hk.symm
theorem ownsRow_keepD11 {w w' : World} {b : Nat} {e size n : Nat} {v : Value} {xs : List Value} (h : w.ownsRow b e size v n xs) (hk : KeepD11 w w') (he : e ≠ TD11) : w'.ownsRow b e size v n xs := by
 refine ⟨h.1, ?_⟩
 rcases h.2 with hn | ⟨g, cap, cur, e1, h0, hg, hr⟩
 ·
  exact .inl hn
 ·
  exact .inr ⟨g, cap, cur, e1, h0, hk g _ _ _ hg he, hr⟩
theorem NmR.keepD11 {w w' : World} {v : Value} {N : List (List UInt8)} (h : NmR w v N) (hk : KeepD11 w w') : NmR w' v N := ownsRow_keepD11 h hk (by decide)
theorem Bx11.set0 {W : World} {b : Nat} {v1 v2 : Value} (h : Bx11 W b v1 v2) (x : Value) : Bx11 (W.setCell ⟨b, 0, none⟩ x) b x v2 := by
 have h' : W.heap[b]? = some (.cells #[v1, v2] TD11 (0, 0)) := h
 have hl := h.lt
 have := h'
 rw [Array.getElem?_eq_getElem hl] at this
 injection this with this
 show (W.setCell ⟨b, 0, none⟩ x).heap[b]? = _
 simp [World.setCell, hl, Array.getElem_modify, this]
theorem Bx11.set1 {W : World} {b : Nat} {v1 v2 : Value} (h : Bx11 W b v1 v2) (x : Value) : Bx11 (W.setCell ⟨b, 1, none⟩ x) b v1 x := by
 have h' : W.heap[b]? = some (.cells #[v1, v2] TD11 (0, 0)) := h
 have hl := h.lt
 have := h'
 rw [Array.getElem?_eq_getElem hl] at this
 injection this with this
 show (W.setCell ⟨b, 1, none⟩ x).heap[b]? = _
 simp [World.setCell, hl, Array.getElem_modify, this]
theorem Bx11.other {W : World} {b c i : Nat} {v1 v2 : Value} (h : Bx11 W b v1 v2) (hne : b ≠ c) (x : Value) : Bx11 (W.setCell ⟨c, i, none⟩ x) b v1 v2 := (Below.heap_setCell _ _ _ _ hne).trans h
theorem Below.cellD11 {w wr : World} {b i : Nat} (hb : Below w.heap.size w wr) (h : w.heap.size ≤ b) (x : Value) : Below w.heap.size w (wr.setCell ⟨b, i, none⟩ x) := hb.setCell (p := ⟨b, i, none⟩) h x
theorem fin211 {w wr : World} {b : Nat} {u1 u2 : Value} (hb : Below w.heap.size w wr) (hr : Bx11 wr b u1 u2) (h : w.heap.size ≤ b) (x y : Value) :
  Bx11 ((wr.setCell ⟨b, 0, none⟩ x).setCell ⟨b, 1, none⟩ y) b x y ∧ Below w.heap.size w ((wr.setCell ⟨b, 0, none⟩ x).setCell ⟨b, 1, none⟩ y) ∧ KeepD11 wr ((wr.setCell ⟨b, 0, none⟩ x).setCell ⟨b, 1, none⟩ y) :=
 ⟨(hr.set0 x).set1 y, Below.cellD11 (Below.cellD11 hb h x) h y, (hr.keep 0 x).trans ((hr.set0 x).keep 1 y)⟩



theorem Gs11.keepD11 {b : Nat} {w w' : World} {R : RowV W11} (h : Gs11 b w R) (hk : KeepD11 w w') : Gs11 b w' R := fun p hp => ownsRow_keepD11 (h p hp) hk (by decide)
theorem Rc11.keepD11 {b : Nat} {w w' : World} {R : RowV W11} {v : Value} (h : Rc11 b R w v) (hk : KeepD11 w w') : Rc11 b R w' v := ⟨ownsRow_keepD11 h.1 hk (by decide), h.2.keepD11 hk⟩
def Doc11 (E : Int) (l : Usr11) (N : List (List UInt8)) (w : World) (e : Ending) (w' : World) : Prop :=
 ∃ R v vg, e = .returned (.tuple #[.agg #[v, vg], .int .i64 E]) ∧ Rc11 0 R w' v ∧ plainR R = l ∧ NmR w' vg N ∧ Below w.heap.size w w'
def uval11 (s : ByteArray) (x : W11) : Value := .agg #[.string s, .string x.hs, .string x.ml, .bool x.dis, .slice x.ga x.gs.length x.gc]
def noW11 : W11 := ⟨⟨#[]⟩, ⟨#[]⟩, false, none, [], 0⟩
theorem plainR_names (R : RowV W11) : names10 (plainR R) = names10 R := map_names W11.u R
theorem plainR_has (R : RowV W11) (n : List UInt8) : hasV (plainR R) n = hasV R n := map_hasV W11.u R n
theorem plainR_put (R : RowV W11) (n : List UInt8) (x : W11) : plainR (putV R n x) = putV (plainR R) n x.u := map_putV W11.u R n x
theorem plainR_del (R : RowV W11) (n : List UInt8) : plainR (delV R n) = delV (plainR R) n := map_delV W11.u R n
theorem plainR_get (R : RowV W11) (n : List UInt8) : getV (plainR R) n = (getV R n).map W11.u := by
 unfold getV plainR
 rw [List.find?_map]
 have e : ((fun p : List UInt8 × U11 => p.1 == n) ∘ fun p : List UInt8 × W11 => (p.1, p.2.u)) = fun p => p.1 == n := rfl
 rw [e]
 cases R.find? fun p => p.1 == n <;> rfl
theorem plainR_rise {R : RowV W11} : RiseV (plainR R) ↔ RiseV R := ⟨fun h => riseV_names h (plainR_names R).symm, fun h => riseV_names h (plainR_names R)⟩
theorem Gs11.put {b : Nat} {w : World} {R : RowV W11} (h : Gs11 b w R) (n : List UInt8) (x : W11) (hx : w.ownsRow b 9 1 (.slice x.ga x.gs.length x.gc) x.gs.length (x.gs.map encStr)) : Gs11 b w (putV R n x) := fun p hp => by
 rcases mem_putV.1 hp with rfl | ⟨hp, _⟩
 ·
  exact hx
 ·
  exact h p hp
theorem Gs11.del {b : Nat} {w : World} {R : RowV W11} (h : Gs11 b w R) (n : List UInt8) : Gs11 b w (delV R n) := fun p hp => h p (mem_delV.1 hp).1
theorem Gs11.get {b : Nat} {w : World} {R : RowV W11} (h : Gs11 b w R) (hr : RiseV R) {n : List UInt8} {x : W11} (hx : getV R n = some x) : NmR w (.slice x.ga x.gs.length x.gc) x.gs := ownsRow_low10 (h (n, x) ((getV_some hr).1 hx)) (Nat.zero_le _)

set_option maxRecDepth 100000 in
set_option maxHeartbeats 1000000 in
theorem rhas11_calls (v : Value) (N : List (List UInt8)) (s : ByteArray) (w : World) (h12 : N.length ≤ 1000) (hu : NmR w v N) :
  Calls Tryz.prog 67 #[v, .string s] w (Tells5 (hasT N s.data.toList) w) := by
 obtain ⟨A, c, rfl⟩ := hu.shape
 have HA := Lib.hid hu
 clear hu
 obtain ⟨n, hn⟩ : ∃ n, n = N.length := ⟨_, rfl⟩
 rw [← hn] at HA h12 ⊢
 have HL := Lib.hid hn
 clear hn
 obtain ⟨r, hr⟩ : ∃ r, r = hasT N s.data.toList := ⟨_, rfl⟩
 rw [← hr]
 have HRS := Lib.hid hr
 clear hr
 go_enter Tryz.func67, Tryz.ntmps67
 go_wp2
 go_loopg [6, 9] n (fun gg _ s9 wr => ∃ k : Nat, k ≤ n ∧ n - k ≤ gg ∧ s9 = .int .i64 k ∧ Hid (Below w.heap.size w wr) ∧ Hid (∀ j (h : j < N.length), j < k → N[j] ≠ s.data.toList))
 case atStart => exact ⟨0, Nat.zero_le _, by omega, rfl, Below.refl _ _, fun j _ hj => absurd hj (Nat.not_lt_zero _)⟩
 case round =>
  obtain ⟨k, hk, hg, rfl, HW, A0⟩ := hrel
  by_cases hlt : k < n
  ·
   have hltz : (k : Int) < (n : Int) := by omega
   have hkl : k < N.length := HL.out ▸ hlt
   obtain ⟨g, cx, e2, x0⟩ := (HA.out.later HW.out).at_ hkl
   injection e2 with e2 e2n e2c
   subst e2
   clear e2n e2c
   by_cases he : N[k] = s.data.toList
   ·
    have hs : tx10 N[k] = s := tx10_eq he
    have HGE : Hid (r = true) := HRS.out.trans (hasT_iff.2 (he ▸ List.getElem_mem hkl))
    have n2 : (s.toList == s.toList) = true := by simp
    rw [hs] at x0
    clear he hs A0
    go_wp2
    go_ret
    exact ⟨by rw [HGE.out]; rfl, HW.out⟩
   ·
    have n2 := tx10_ne he
    have n1 : ¬ (tx10 N[k]).toList = s.toList := by simpa using n2
    have HX : Hid (∀ j (h : j < N.length), j < k + 1 → N[j] ≠ s.data.toList) := fun j h hj => by
     by_cases e : j = k
     ·
      subst e; exact he
     ·
      exact A0.out j h (by omega)
    clear he A0
    generalize tx10 N[k] = nm at *
    go_wp2
    go_roundg (n - (k + 1))
    case measure => omega
    case rel => exact ⟨k + 1, by omega, by omega, by go_num, HW, HX⟩
  ·
   have hltz : ¬ (k : Int) < (n : Int) := by omega
   obtain rfl : k = n := by omega
   have HGE : Hid (r = false) := HRS.out.trans (hasT_false.2 fun hm => by
    obtain ⟨j, hj, e⟩ := List.getElem_of_mem hm
    exact A0.out j hj (by have := HL.out; omega) e)
   clear A0
   go_wp2
   go_ret
   exact ⟨by rw [HGE.out]; rfl, HW.out⟩


theorem dropN_snoc11 {N : List (List UInt8)} {s : List UInt8} {k : Nat} (hk : k < N.length) : dropN (N.take (k + 1)) s = dropN (N.take k) s ++ if N[k] = s then [] else [N[k]] := by
 unfold dropN
 rw [List.take_succ_eq_append_getElem hk, List.filter_append]
 by_cases e : N[k] = s <;> simp [e]
theorem dropN_le11 (N : List (List UInt8)) (s : List UInt8) (k : Nat) : (dropN (N.take k) s).length ≤ N.length := Nat.le_trans (List.length_filter_le _ _) (by simp; omega)
theorem infoStr11 : (Tryz.prog.info? 9).map (fun i => (i.zero, i.size, i.bytes)) = some (some (.string ⟨#[]⟩), 1, 16) := by kernel_rfl
set_option maxRecDepth 100000 in
set_option maxHeartbeats 2000000 in
theorem rwithout11_calls (v : Value) (N : List (List UInt8)) (s : ByteArray) (w : World) (h12 : N.length ≤ 900) (hu : NmR w v N) :
  Calls Tryz.prog 97 #[v, .string s] w fun e w' => ∃ v', e = .returned v' ∧ NmR w' v' (dropN N s.data.toList) ∧ Below w.heap.size w w' := by
 obtain ⟨A, c, rfl⟩ := hu.shape
 have HA := Lib.hid hu
 clear hu
 obtain ⟨i0, hi, hz0, hz1, hz2⟩ := info_parts infoStr11
 obtain ⟨n, hn⟩ : ∃ n, n = N.length := ⟨_, rfl⟩
 rw [← hn] at HA h12 ⊢
 have HL := Lib.hid hn
 clear hn
 go_enter Tryz.func97, Tryz.ntmps97
 go_wp2
 go_loopg [5, 7, 10] n (fun gg s5 _ s10 wr => ∃ k : Nat, k ≤ n ∧ n - k ≤ gg ∧ s10 = .int .i64 k ∧ Hid (Below w.heap.size w wr) ∧ Hid (wr.ownsRow w.heap.size 9 1 s5 (dropN (N.take k) s.data.toList).length ((dropN (N.take k) s.data.toList).map encStr)))
 case atStart => exact ⟨0, Nat.zero_le _, by omega, rfl, Below.refl _ _, World.ownsRow_nil _ _ _ _⟩
 case round =>
  obtain ⟨k, hk, hg, rfl, HW, HU⟩ := hrel
  have hlen := dropN_le11 N s.data.toList k
  rw [← HL.out] at hlen
  by_cases hlt : k < n
  ·
   have hltz : (k : Int) < (n : Int) := by omega
   have hkl : k < N.length := HL.out ▸ hlt
   obtain ⟨g, cx, e2, x0⟩ := (HA.out.later HW.out).at_ hkl
   injection e2 with e2 e2n e2c
   subst e2
   clear e2n e2c
   have hst := dropN_snoc11 (s := s.data.toList) hkl
   by_cases he : N[k] = s.data.toList
   ·
    rw [if_pos he, List.append_nil] at hst
    have hs : tx10 N[k] = s := tx10_eq he
    have n2 : (s.toList != s.toList) = false := by simp
    have n3 : (s.toList == s.toList) = true := by simp
    rw [hs] at x0
    have HST := Lib.hid hst
    clear hs hst he
    go_wp2
    go_roundg (n - (k + 1))
    case measure => omega
    case rel => exact ⟨k + 1, by omega, by omega, by go_num, HW, (show Hid _ from by rw [HST.out]; exact HU.out)⟩
   ·
    rw [if_neg he] at hst
    have n2 := tx10_ne he
    have n1 : ¬ (tx10 N[k]).toList = s.toList := by simpa using n2
    have HST := Lib.hid hst
    have HEN : Hid (encStr N[k] = .string (tx10 N[k])) := rfl
    clear hst he
    generalize hnk : N[k] = nk at *
    generalize tx10 nk = nm at *
    generalize hol : dropN (N.take k) s.data.toList = ol at *
    clear hnk hol
    go_wp2_with (first
     | (at_builtin; refine wpList_append_own _ rfl _ _ 28 rfl w.heap.size 9 i0 (.string ⟨#[]⟩) 1 16 Tryz.underlying28 hi hz0 hz1 hz2 rfl (by decide) _ _ _ rfl (HU.out.alloc _) ⟨wr.heap.size, 0, none⟩ 1 1 [.string nm] rfl rfl (fun j u hu => by rw [Addr.add_lit, Nat.zero_add, World.cell?_alloc_at _ _ _ _ rfl]; simpa using hu) (by simp [Value.oneCell']) (by unfold maxLen; omega) (by omega) (by have := HW.out.size; simp; omega) ?_; intro v2 w2 hown' hgrow _; have HO2 := Lib.hid hown'; have HG2 := Lib.hid hgrow; clear hown' hgrow)
     | fail)
    have R1 := Lib.hid ((below_next HW.out (below_alloc (Below.refl _ _) _)).grown HG2.out (by have := HW.out.size; simp; omega) (fun j hj => (HU.out.lt j hj).1))
    have R2 : Hid (w2.ownsRow w.heap.size 9 1 v2 (ol ++ [nk]).length ((ol ++ [nk]).map encStr)) := by
     have := HO2.out
     show World.ownsRow _ _ _ _ _ _ _
     rw [List.length_append, List.map_append, List.map_singleton, HEN.out]
     exact this
    go_roundg (n - (k + 1))
    case measure => omega
    case rel => exact ⟨k + 1, by omega, by omega, by go_num, R1, (show Hid _ from by rw [HST.out]; exact R2.out)⟩
  ·
   have hltz : ¬ (k : Int) < (n : Int) := by omega
   obtain rfl : k = n := by omega
   have hu := HU.out
   rw [List.take_of_length_le (by have := HL.out; omega)] at hu
   have HF : Hid (NmR wr _ (dropN N s.data.toList)) := NmR.of hu
   clear hu
   go_wp2
   go_ret
   exact ⟨_, rfl, HF.out, HW.out⟩
end Go.Proofs.YthlgmkfofebbfaaGreatDoor


namespace Go.Proofs.YthlgmkfofebbfaaGreatDoor
open Go.RowKit Go.Maps

theorem blk_later11 {W W' : World} {B : Nat} {a b c d e : Value} (h : Blk5 W B a b c d e) (hb : Below W.heap.size W W') : Blk5 W' B a b c d e := (hb.block B h.lt).trans h
theorem Blk5.put011 {w : World} {B : Nat} {a b c d e : Value} (h : Blk5 w B a b c d e) (x : Value) : Blk5 (w.setCell ⟨B, 0, none⟩ x) B x b c d e := by
 have h' : w.heap[B]? = some (.cells #[a, b, c, d, e] 37 (0, 0)) := h
 simp [Blk5, World.setCell, Array.getElem?_modify, h']
theorem Blk5.put111 {w : World} {B : Nat} {a b c d e : Value} (h : Blk5 w B a b c d e) (x : Value) : Blk5 (w.setCell ⟨B, 1, none⟩ x) B a x c d e := by
 have h' : w.heap[B]? = some (.cells #[a, b, c, d, e] 37 (0, 0)) := h
 simp [Blk5, World.setCell, Array.getElem?_modify, h']
theorem Blk5.put211 {w : World} {B : Nat} {a b c d e : Value} (h : Blk5 w B a b c d e) (x : Value) : Blk5 (w.setCell ⟨B, 2, none⟩ x) B a b x d e := by
 have h' : w.heap[B]? = some (.cells #[a, b, c, d, e] 37 (0, 0)) := h
 simp [Blk5, World.setCell, Array.getElem?_modify, h']
theorem Blk5.put411 {w : World} {B : Nat} {a b c d e : Value} (h : Blk5 w B a b c d e) (x : Value) : Blk5 (w.setCell ⟨B, 4, none⟩ x) B a b c d x := by
 have h' : w.heap[B]? = some (.cells #[a, b, c, d, e] 37 (0, 0)) := h
 simp [Blk5, World.setCell, Array.getElem?_modify, h']
theorem set5_11 {w W : World} {B : Nat} {a b c d e : Value} (hb : Below w.heap.size w W) (hl : w.heap.size ≤ B) (h : Blk5 W B a b c d e) (a' b' c' d' e' : Value) :
  Blk5 (set5 W B a' b' c' d' e') B a' b' c' d' e' ∧ Below w.heap.size w (set5 W B a' b' c' d' e') ∧ KeepD11 W W ∧ ∀ v (N : List (List UInt8)), NmR W v N → NmR (set5 W B a' b' c' d' e') v N := by
 have ht : Turns (fun i => i = B) W (set5 W B a' b' c' d' e') := turns_set5 (Turns.refl (fun i => i = B) W) B (fun _ => rfl) _ _ _ _ _
 refine ⟨h.set5 _ _ _ _ _, hb.trans (ht.below_at hb.size (fun i e => by omega)), fun _ _ _ _ h _ => h, fun v N hn => ⟨hn.1, ?_⟩⟩
 rcases hn.2 with hn | ⟨g, cap, cur, e1, h0, hg, hr⟩
 ·
  exact .inl hn
 ·
  have hne : g ≠ B := fun e => by
   subst e
   rw [show W.heap[g]? = _ from h] at hg
   injection hg with hg
   injection hg with _ h
   exact absurd h (by decide)
  exact .inr ⟨g, cap, cur, e1, h0, (ht.block g (Array.getElem?_eq_some_iff.1 hg).1 hne).trans hg, hr⟩

theorem Rw11.keepD11 {w w' : World} {R : RowV W11} {v : Value} (h : Rw11 R w v) (hk : KeepD11 w w') : Rw11 R w' v := ownsRow_keepD11 h hk (by decide)
def User11 (R : RowV W11) (s : ByteArray) (w : World) (e : Ending) (w' : World) : Prop :=
 ∃ t x, e = .returned (.tuple #[uval11 t x, .int .i64 (deF11 (name5 s.data.toList) (hasV R s.data.toList))]) ∧ (deF11 (name5 s.data.toList) (hasV R s.data.toList) = 0 → t = s ∧ getV R s.data.toList = some x) ∧ (deF11 (name5 s.data.toList) (hasV R s.data.toList) ≠ 0 → t = ⟨#[]⟩ ∧ x = noW11) ∧ Below w.heap.size w w'

set_option maxRecDepth 100000 in
set_option maxHeartbeats 2000000 in
theorem ruser11_calls (v vg : Value) (R : RowV W11) (N : List (List UInt8)) (s : ByteArray) (w : World) (hR : Rc11 0 R w v) (hN : NmR w vg N) (h12 : R.length ≤ 12) (hr : RiseV R) (hs : s.size ≤ 1000) :
  Calls Tryz.prog 55 #[.agg #[v, vg], .string s] w (User11 R s w) := by
 have hnot : ∀ (x : Bool) (w : World), (Op.unary .not (.bool x)).run Tryz.prog w = .ok (.bool (!x)) w := fun _ _ => rfl
 have hzu := zerou11
 obtain ⟨A, c, rfl⟩ := hR.rw.us.shape
 obtain ⟨A1, c1, rfl⟩ := hN.shape
 have HUS := Lib.hid hR.rw.us
 have HRI := Lib.hid hr
 have HN0 := Lib.hid (fun W => rname_calls s W hs)
 have HF0 : Hid (∀ W, Below w.heap.size w W → Calls Tryz.prog 112 #[.slice A R.length c, .string s] W (Found11 R s.data.toList W)) := fun W hb => rfind11_calls A c R.length R s W rfl h12 (hR.rw.us.later hb)
 clear hN hR hr
 obtain ⟨n, hn⟩ : ∃ n, n = R.length := ⟨_, rfl⟩
 rw [← hn] at HUS HF0 h12 ⊢
 have HL := Lib.hid hn
 clear hn
 generalize N.length = n1 at *
 unfold User11
 cases hname : name5 s.data.toList with
 | false =>
  rw [hname] at HN0
  clear hname HF0 HUS HRI
  show Calls _ _ _ _ fun e w' => ∃ t x, e = .returned (.tuple #[uval11 t x, .int .i64 10]) ∧ ((10 : Int) = 0 → t = s ∧ getV R s.data.toList = some x) ∧ ((10 : Int) ≠ 0 → t = ⟨#[]⟩ ∧ x = noW11) ∧ Below w.heap.size w w'
  have Hd1a : Hid (Bx11 (w.alloc (.cells #[.slice A n c, .slice A1 n1 c1] TD11)) (w.heap.size) (.slice A n c) (.slice A1 n1 c1)) := bx11_new w _ _
  have HLO2a : Hid (w.heap.size ≤ w.heap.size) := Nat.le_refl _
  have HB3a : Hid (Below w.heap.size w (w.alloc (.cells #[.slice A n c, .slice A1 n1 c1] TD11))) := below_alloc (Below.refl _ _) _
  have Hd4a := Lib.hid (Hd1a.out.later (below_alloc (Below.refl _ _) (.cells #[.string ⟨#[]⟩, .string ⟨#[]⟩, .string ⟨#[]⟩, .bool false, .slice none 0 0] 37)))
  have Hr5a : Hid (Blk5 ((w.alloc (.cells #[.slice A n c, .slice A1 n1 c1] TD11)).alloc (.cells #[.string ⟨#[]⟩, .string ⟨#[]⟩, .string ⟨#[]⟩, .bool false, .slice none 0 0] 37)) (w.heap.size + 1) (.string ⟨#[]⟩) (.string ⟨#[]⟩) (.string ⟨#[]⟩) (.bool false) (.slice none 0 0)) := by
   have hq : Blk5 ((w.alloc (.cells #[.slice A n c, .slice A1 n1 c1] TD11)).alloc (.cells #[.string ⟨#[]⟩, .string ⟨#[]⟩, .string ⟨#[]⟩, .bool false, .slice none 0 0] 37)) (w.alloc (.cells #[.slice A n c, .slice A1 n1 c1] TD11)).heap.size (.string ⟨#[]⟩) (.string ⟨#[]⟩) (.string ⟨#[]⟩) (.bool false) (.slice none 0 0) := heap_alloc_new (w.alloc (.cells #[.slice A n c, .slice A1 n1 c1] TD11)) _
   simp only [World.size_alloc] at hq
   exact hq
  have HLO6a : Hid (w.heap.size ≤ w.heap.size + 1) := by have := HB3a.out.size; show _ ≤ _; simp at this; omega
  have HB7a := Lib.hid (below_next HB3a.out (below_alloc (Below.refl _ _) (.cells #[.string ⟨#[]⟩, .string ⟨#[]⟩, .string ⟨#[]⟩, .bool false, .slice none 0 0] 37)))
  go_enter Tryz.func55, Tryz.ntmps55
  have hd8a := Hd4a.out
  have kx9a := hd8a.c0
  have ky10a := hd8a.c1
  have kp11a := hd8a.f0
  have kq12a := hd8a.f1
  clear hd8a
  have hr13a := Hr5a.out
  have kf14a := hr13a.free
  have kc15a : _ = some (.string ⟨#[]⟩ : Value) := hr13a.at_ 0
  have kc16a : _ = some (.string ⟨#[]⟩ : Value) := hr13a.at_ 1
  have kc17a : _ = some (.string ⟨#[]⟩ : Value) := hr13a.at_ 2
  have kc18a : _ = some (.bool false : Value) := hr13a.at_ 3
  have kc19a : _ = some (.slice none 0 0 : Value) := hr13a.at_ 4
  clear hr13a
  go_wp2_with fail
  generalize (w.alloc (.cells #[.slice A n c, .slice A1 n1 c1] TD11)).alloc (.cells #[.string ⟨#[]⟩, .string ⟨#[]⟩, .string ⟨#[]⟩, .bool false, .slice none 0 0] 37) = wg20a at *
  with_reducible refine (HN0.out _).mono ?_
  rintro e wn ⟨rfl, hw⟩
  replace hw := hw.symm
  subst hw
  clear kx9a ky10a kp11a kq12a kf14a kc15a kc16a kc17a kc18a kc19a
  have hd21a := Hd4a.out
  have kx22a := hd21a.c0
  have ky23a := hd21a.c1
  have kp24a := hd21a.f0
  have kq25a := hd21a.f1
  clear hd21a
  have hr26a := Hr5a.out
  have kf27a := hr26a.free
  have kc28a : _ = some (.string ⟨#[]⟩ : Value) := hr26a.at_ 0
  have kc29a : _ = some (.string ⟨#[]⟩ : Value) := hr26a.at_ 1
  have kc30a : _ = some (.string ⟨#[]⟩ : Value) := hr26a.at_ 2
  have kc31a : _ = some (.bool false : Value) := hr26a.at_ 3
  have kc32a : _ = some (.slice none 0 0 : Value) := hr26a.at_ 4
  clear hr26a
  have HS := set5_11 HB7a.out HLO6a.out Hr5a.out (.string ⟨#[]⟩) (.string ⟨#[]⟩) (.string ⟨#[]⟩) (.bool false) (.slice none 0 0)
  have z0 : _ = some (.string ⟨#[]⟩ : Value) := HS.1.at_ 0
  have z1 : _ = some (.string ⟨#[]⟩ : Value) := HS.1.at_ 1
  have z2 : _ = some (.string ⟨#[]⟩ : Value) := HS.1.at_ 2
  have z3 : _ = some (.bool false : Value) := HS.1.at_ 3
  have z4 : _ = some (.slice none 0 0 : Value) := HS.1.at_ 4
  have HPOST := Lib.hid (show ∃ t x, Ending.returned (.tuple #[.agg #[.string ⟨#[]⟩, .string ⟨#[]⟩, .string ⟨#[]⟩, .bool false, .slice none 0 0], .int .i64 10]) = .returned (.tuple #[uval11 t x, .int .i64 10]) ∧ ((10 : Int) = 0 → t = s ∧ getV R s.data.toList = some x) ∧ ((10 : Int) ≠ 0 → t = ⟨#[]⟩ ∧ x = noW11) ∧ Below w.heap.size w _ from ⟨⟨#[]⟩, noW11, rfl, fun h => absurd h (by decide), fun _ => ⟨rfl, rfl⟩, HS.2.1⟩)
  unfold set5 at z0 z1 z2 z3 z4 HPOST
  clear HS
  go_wp2
  refine bodyPost_ret (v := .tuple #[.agg #[.string ⟨#[]⟩, .string ⟨#[]⟩, .string ⟨#[]⟩, .bool false, .slice none 0 0], .int .i64 10]) ?_ rfl HPOST.out
  simp [results, Tryz.results55, go_sem, z0, z1, z2, z3, z4]
 | true =>
  rw [hname] at HN0
  clear hname
  cases hh : hasV R s.data.toList with
  | false =>
   have HHH := Lib.hid hh
   clear hh
   show Calls _ _ _ _ fun e w' => ∃ t x, e = .returned (.tuple #[uval11 t x, .int .i64 8]) ∧ ((8 : Int) = 0 → t = s ∧ getV R s.data.toList = some x) ∧ ((8 : Int) ≠ 0 → t = ⟨#[]⟩ ∧ x = noW11) ∧ Below w.heap.size w w'
   have Hd1b : Hid (Bx11 (w.alloc (.cells #[.slice A n c, .slice A1 n1 c1] TD11)) (w.heap.size) (.slice A n c) (.slice A1 n1 c1)) := bx11_new w _ _
   have HLO2b : Hid (w.heap.size ≤ w.heap.size) := Nat.le_refl _
   have HB3b : Hid (Below w.heap.size w (w.alloc (.cells #[.slice A n c, .slice A1 n1 c1] TD11))) := below_alloc (Below.refl _ _) _
   have Hd4b := Lib.hid (Hd1b.out.later (below_alloc (Below.refl _ _) (.cells #[.string ⟨#[]⟩, .string ⟨#[]⟩, .string ⟨#[]⟩, .bool false, .slice none 0 0] 37)))
   have Hr5b : Hid (Blk5 ((w.alloc (.cells #[.slice A n c, .slice A1 n1 c1] TD11)).alloc (.cells #[.string ⟨#[]⟩, .string ⟨#[]⟩, .string ⟨#[]⟩, .bool false, .slice none 0 0] 37)) (w.heap.size + 1) (.string ⟨#[]⟩) (.string ⟨#[]⟩) (.string ⟨#[]⟩) (.bool false) (.slice none 0 0)) := by
    have hq : Blk5 ((w.alloc (.cells #[.slice A n c, .slice A1 n1 c1] TD11)).alloc (.cells #[.string ⟨#[]⟩, .string ⟨#[]⟩, .string ⟨#[]⟩, .bool false, .slice none 0 0] 37)) (w.alloc (.cells #[.slice A n c, .slice A1 n1 c1] TD11)).heap.size (.string ⟨#[]⟩) (.string ⟨#[]⟩) (.string ⟨#[]⟩) (.bool false) (.slice none 0 0) := heap_alloc_new (w.alloc (.cells #[.slice A n c, .slice A1 n1 c1] TD11)) _
    simp only [World.size_alloc] at hq
    exact hq
   have HLO6b : Hid (w.heap.size ≤ w.heap.size + 1) := by have := HB3b.out.size; show _ ≤ _; simp at this; omega
   have HB7b := Lib.hid (below_next HB3b.out (below_alloc (Below.refl _ _) (.cells #[.string ⟨#[]⟩, .string ⟨#[]⟩, .string ⟨#[]⟩, .bool false, .slice none 0 0] 37)))
   go_enter Tryz.func55, Tryz.ntmps55
   have hd8b := Hd4b.out
   have kx9b := hd8b.c0
   have ky10b := hd8b.c1
   have kp11b := hd8b.f0
   have kq12b := hd8b.f1
   clear hd8b
   have hr13b := Hr5b.out
   have kf14b := hr13b.free
   have kc15b : _ = some (.string ⟨#[]⟩ : Value) := hr13b.at_ 0
   have kc16b : _ = some (.string ⟨#[]⟩ : Value) := hr13b.at_ 1
   have kc17b : _ = some (.string ⟨#[]⟩ : Value) := hr13b.at_ 2
   have kc18b : _ = some (.bool false : Value) := hr13b.at_ 3
   have kc19b : _ = some (.slice none 0 0 : Value) := hr13b.at_ 4
   clear hr13b
   go_wp2_with fail
   generalize (w.alloc (.cells #[.slice A n c, .slice A1 n1 c1] TD11)).alloc (.cells #[.string ⟨#[]⟩, .string ⟨#[]⟩, .string ⟨#[]⟩, .bool false, .slice none 0 0] 37) = wg20b at *
   with_reducible refine (HN0.out _).mono ?_
   rintro e wn ⟨rfl, hw⟩
   replace hw := hw.symm
   subst hw
   clear kx9b ky10b kp11b kq12b kf14b kc15b kc16b kc17b kc18b kc19b
   have hd21b := Hd4b.out
   have kx22b := hd21b.c0
   have ky23b := hd21b.c1
   have kp24b := hd21b.f0
   have kq25b := hd21b.f1
   clear hd21b
   have hr26b := Hr5b.out
   have kf27b := hr26b.free
   have kc28b : _ = some (.string ⟨#[]⟩ : Value) := hr26b.at_ 0
   have kc29b : _ = some (.string ⟨#[]⟩ : Value) := hr26b.at_ 1
   have kc30b : _ = some (.string ⟨#[]⟩ : Value) := hr26b.at_ 2
   have kc31b : _ = some (.bool false : Value) := hr26b.at_ 3
   have kc32b : _ = some (.slice none 0 0 : Value) := hr26b.at_ 4
   clear hr26b
   go_wp2_with fail
   with_reducible refine (HF0.out wg20b HB7b.out).mono ?_
   rintro e w3 ⟨r, rfl, hfound, hb⟩
   clear kx22b ky23b kp24b kq25b kf27b kc28b kc29b kc30b kc31b kc32b
   have Hd33b := Lib.hid (Hd4b.out.later hb)
   have Hr34b := Lib.hid (blk_later11 Hr5b.out hb)
   have HB35b := Lib.hid (below_next HB7b.out hb)
   clear hb
   obtain rfl : r = -1 := by
    rcases hfound with ⟨_, h⟩ | ⟨h, _⟩
    ·
     exact h
    ·
     rw [HHH.out] at h; cases h
   clear hfound HF0 HUS HRI HHH
   have hd36b := Hd33b.out
   have kx37b := hd36b.c0
   have ky38b := hd36b.c1
   have kp39b := hd36b.f0
   have kq40b := hd36b.f1
   clear hd36b
   have hr41b := Hr34b.out
   have kf42b := hr41b.free
   have kc43b : _ = some (.string ⟨#[]⟩ : Value) := hr41b.at_ 0
   have kc44b : _ = some (.string ⟨#[]⟩ : Value) := hr41b.at_ 1
   have kc45b : _ = some (.string ⟨#[]⟩ : Value) := hr41b.at_ 2
   have kc46b : _ = some (.bool false : Value) := hr41b.at_ 3
   have kc47b : _ = some (.slice none 0 0 : Value) := hr41b.at_ 4
   clear hr41b
   have HS := set5_11 HB35b.out HLO6b.out Hr34b.out (.string ⟨#[]⟩) (.string ⟨#[]⟩) (.string ⟨#[]⟩) (.bool false) (.slice none 0 0)
   have z0 : _ = some (.string ⟨#[]⟩ : Value) := HS.1.at_ 0
   have z1 : _ = some (.string ⟨#[]⟩ : Value) := HS.1.at_ 1
   have z2 : _ = some (.string ⟨#[]⟩ : Value) := HS.1.at_ 2
   have z3 : _ = some (.bool false : Value) := HS.1.at_ 3
   have z4 : _ = some (.slice none 0 0 : Value) := HS.1.at_ 4
   have HPOST := Lib.hid (show ∃ t x, Ending.returned (.tuple #[.agg #[.string ⟨#[]⟩, .string ⟨#[]⟩, .string ⟨#[]⟩, .bool false, .slice none 0 0], .int .i64 8]) = .returned (.tuple #[uval11 t x, .int .i64 8]) ∧ ((8 : Int) = 0 → t = s ∧ getV R s.data.toList = some x) ∧ ((8 : Int) ≠ 0 → t = ⟨#[]⟩ ∧ x = noW11) ∧ Below w.heap.size w _ from ⟨⟨#[]⟩, noW11, rfl, fun h => absurd h (by decide), fun _ => ⟨rfl, rfl⟩, HS.2.1⟩)
   unfold set5 at z0 z1 z2 z3 z4 HPOST
   clear HS
   go_wp2
   refine bodyPost_ret (v := .tuple #[.agg #[.string ⟨#[]⟩, .string ⟨#[]⟩, .string ⟨#[]⟩, .bool false, .slice none 0 0], .int .i64 8]) ?_ rfl HPOST.out
   simp [results, Tryz.results55, go_sem, z0, z1, z2, z3, z4]
  | true =>
   have HHH := Lib.hid hh
   clear hh
   show Calls _ _ _ _ fun e w' => ∃ t x, e = .returned (.tuple #[uval11 t x, .int .i64 0]) ∧ ((0 : Int) = 0 → t = s ∧ getV R s.data.toList = some x) ∧ ((0 : Int) ≠ 0 → t = ⟨#[]⟩ ∧ x = noW11) ∧ Below w.heap.size w w'
   have Hd1c : Hid (Bx11 (w.alloc (.cells #[.slice A n c, .slice A1 n1 c1] TD11)) (w.heap.size) (.slice A n c) (.slice A1 n1 c1)) := bx11_new w _ _
   have HLO2c : Hid (w.heap.size ≤ w.heap.size) := Nat.le_refl _
   have HB3c : Hid (Below w.heap.size w (w.alloc (.cells #[.slice A n c, .slice A1 n1 c1] TD11))) := below_alloc (Below.refl _ _) _
   have Hd4c := Lib.hid (Hd1c.out.later (below_alloc (Below.refl _ _) (.cells #[.string ⟨#[]⟩, .string ⟨#[]⟩, .string ⟨#[]⟩, .bool false, .slice none 0 0] 37)))
   have Hr5c : Hid (Blk5 ((w.alloc (.cells #[.slice A n c, .slice A1 n1 c1] TD11)).alloc (.cells #[.string ⟨#[]⟩, .string ⟨#[]⟩, .string ⟨#[]⟩, .bool false, .slice none 0 0] 37)) (w.heap.size + 1) (.string ⟨#[]⟩) (.string ⟨#[]⟩) (.string ⟨#[]⟩) (.bool false) (.slice none 0 0)) := by
    have hq : Blk5 ((w.alloc (.cells #[.slice A n c, .slice A1 n1 c1] TD11)).alloc (.cells #[.string ⟨#[]⟩, .string ⟨#[]⟩, .string ⟨#[]⟩, .bool false, .slice none 0 0] 37)) (w.alloc (.cells #[.slice A n c, .slice A1 n1 c1] TD11)).heap.size (.string ⟨#[]⟩) (.string ⟨#[]⟩) (.string ⟨#[]⟩) (.bool false) (.slice none 0 0) := heap_alloc_new (w.alloc (.cells #[.slice A n c, .slice A1 n1 c1] TD11)) _
    simp only [World.size_alloc] at hq
    exact hq
   have HLO6c : Hid (w.heap.size ≤ w.heap.size + 1) := by have := HB3c.out.size; show _ ≤ _; simp at this; omega
   have HB7c := Lib.hid (below_next HB3c.out (below_alloc (Below.refl _ _) (.cells #[.string ⟨#[]⟩, .string ⟨#[]⟩, .string ⟨#[]⟩, .bool false, .slice none 0 0] 37)))
   go_enter Tryz.func55, Tryz.ntmps55
   have hd8c := Hd4c.out
   have kx9c := hd8c.c0
   have ky10c := hd8c.c1
   have kp11c := hd8c.f0
   have kq12c := hd8c.f1
   clear hd8c
   have hr13c := Hr5c.out
   have kf14c := hr13c.free
   have kc15c : _ = some (.string ⟨#[]⟩ : Value) := hr13c.at_ 0
   have kc16c : _ = some (.string ⟨#[]⟩ : Value) := hr13c.at_ 1
   have kc17c : _ = some (.string ⟨#[]⟩ : Value) := hr13c.at_ 2
   have kc18c : _ = some (.bool false : Value) := hr13c.at_ 3
   have kc19c : _ = some (.slice none 0 0 : Value) := hr13c.at_ 4
   clear hr13c
   go_wp2_with fail
   generalize (w.alloc (.cells #[.slice A n c, .slice A1 n1 c1] TD11)).alloc (.cells #[.string ⟨#[]⟩, .string ⟨#[]⟩, .string ⟨#[]⟩, .bool false, .slice none 0 0] 37) = wg20c at *
   with_reducible refine (HN0.out _).mono ?_
   rintro e wn ⟨rfl, hw⟩
   replace hw := hw.symm
   subst hw
   clear kx9c ky10c kp11c kq12c kf14c kc15c kc16c kc17c kc18c kc19c
   have hd21c := Hd4c.out
   have kx22c := hd21c.c0
   have ky23c := hd21c.c1
   have kp24c := hd21c.f0
   have kq25c := hd21c.f1
   clear hd21c
   have hr26c := Hr5c.out
   have kf27c := hr26c.free
   have kc28c : _ = some (.string ⟨#[]⟩ : Value) := hr26c.at_ 0
   have kc29c : _ = some (.string ⟨#[]⟩ : Value) := hr26c.at_ 1
   have kc30c : _ = some (.string ⟨#[]⟩ : Value) := hr26c.at_ 2
   have kc31c : _ = some (.bool false : Value) := hr26c.at_ 3
   have kc32c : _ = some (.slice none 0 0 : Value) := hr26c.at_ 4
   clear hr26c
   go_wp2_with fail
   with_reducible refine (HF0.out wg20c HB7c.out).mono ?_
   rintro e w3 ⟨r, rfl, hfound, hb⟩
   clear kx22c ky23c kp24c kq25c kf27c kc28c kc29c kc30c kc31c kc32c
   have Hd33c := Lib.hid (Hd4c.out.later hb)
   have Hr34c := Lib.hid (blk_later11 Hr5c.out hb)
   have HB35c := Lib.hid (below_next HB7c.out hb)
   clear hb
   obtain ⟨i, hil, rfl, hin⟩ : ∃ i : Nat, ∃ h : i < R.length, r = i ∧ R[i].1 = s.data.toList := by
    rcases hfound with ⟨h, _⟩ | ⟨_, h⟩
    ·
     rw [HHH.out] at h; cases h
    ·
     exact h
   obtain ⟨g, rfl, c0, c1, c2, c3, c4⟩ := (HUS.out.later HB35c.out).at_ i hil
   have hin' : tx10 R[i].1 = s := by rw [hin, tx10_back]
   rw [hin'] at c0
   have HG : Hid (getV R s.data.toList = some R[i].2) := (getV_some HRI.out).2 (by rw [← hin]; exact List.getElem_mem hil)
   have hltz : (i : Int) < (n : Int) := by have := HL.out; omega
   have y1 : ¬ (i : Int) < 0 := by omega
   have y2 : (0 : Int) ≤ (i : Int) := by omega
   have y4 : decide ((i : Int) < 0) = false := decide_eq_false y1
   clear hfound HF0 HUS HRI HHH hin hin'
   generalize R[i].2 = xx at *
   obtain ⟨xh, xm, xd, xa, xg, xc⟩ := xx
   dsimp only at c1 c2 c3 c4
   generalize hxl : xg.length = xl at c4
   have HXL := Lib.hid hxl
   clear hil hxl
   have hd36c := Hd33c.out
   have kx37c := hd36c.c0
   have ky38c := hd36c.c1
   have kp39c := hd36c.f0
   have kq40c := hd36c.f1
   clear hd36c
   have hr41c := Hr34c.out
   have kf42c := hr41c.free
   have kc43c : _ = some (.string ⟨#[]⟩ : Value) := hr41c.at_ 0
   have kc44c : _ = some (.string ⟨#[]⟩ : Value) := hr41c.at_ 1
   have kc45c : _ = some (.string ⟨#[]⟩ : Value) := hr41c.at_ 2
   have kc46c : _ = some (.bool false : Value) := hr41c.at_ 3
   have kc47c : _ = some (.slice none 0 0 : Value) := hr41c.at_ 4
   clear hr41c
   have HS := set5_11 HB35c.out HLO6c.out Hr34c.out (.string s) (.string xh) (.string xm) (.bool xd) (.slice xa xl xc)
   have z0 : _ = some (.string s : Value) := HS.1.at_ 0
   have z1 : _ = some (.string xh : Value) := HS.1.at_ 1
   have z2 : _ = some (.string xm : Value) := HS.1.at_ 2
   have z3 : _ = some (.bool xd : Value) := HS.1.at_ 3
   have z4 : _ = some (.slice xa xl xc : Value) := HS.1.at_ 4
   have HPOST := Lib.hid (show ∃ t x, Ending.returned (.tuple #[.agg #[.string s, .string xh, .string xm, .bool xd, .slice xa xl xc], .int .i64 0]) = .returned (.tuple #[uval11 t x, .int .i64 0]) ∧ ((0 : Int) = 0 → t = s ∧ getV R s.data.toList = some x) ∧ ((0 : Int) ≠ 0 → t = ⟨#[]⟩ ∧ x = noW11) ∧ Below w.heap.size w _ from ⟨s, ⟨xh, xm, xd, xa, xg, xc⟩, by unfold uval11; rw [HXL.out], fun _ => ⟨rfl, HG.out⟩, fun h => absurd rfl h, HS.2.1⟩)
   unfold set5 at z0 z1 z2 z3 z4 HPOST
   clear HS
   go_wp2
   refine bodyPost_ret (v := .tuple #[.agg #[.string s, .string xh, .string xm, .bool xd, .slice xa xl xc], .int .i64 0]) ?_ rfl HPOST.out
   simp [results, Tryz.results55, go_sem, z0, z1, z2, z3, z4]

set_option maxRecDepth 100000 in
set_option maxHeartbeats 2000000 in
theorem rputd11_calls (v vg : Value) (R : RowV W11) (N : List (List UInt8)) (s : ByteArray) (x : W11) (w : World) (hR : Rw11 R w v) (hN : NmR w vg N) (h12 : R.length ≤ 12) (hr : RiseV R) :
  Calls Tryz.prog 90 #[.agg #[v, vg], uval11 s x] w fun e w' => ∃ v', e = .returned (.agg #[v', vg]) ∧ Rw11 (putV R s.data.toList x) w' v' ∧ Below w.heap.size w w' := by
 obtain ⟨A, c, rfl⟩ := hR.us.shape
 obtain ⟨A1, c1, rfl⟩ := hN.shape
 have HP0 : Hid (∀ W, Below w.heap.size w W → Calls Tryz.prog 93 #[.slice A R.length c, .agg #[.string s, .string x.hs, .string x.ml, .bool x.dis, .slice x.ga x.gs.length x.gc]] W fun e w' => ∃ v, e = .returned v ∧ Rw11 (putV R s.data.toList x) w' v ∧ Below W.heap.size W w') := fun W hb => rput11_calls A c R.length R s x W rfl h12 hr (hR.us.later hb)
 unfold uval11
 clear hN hR hr
 generalize putV R s.data.toList x = R' at *
 obtain ⟨xh, xm, xd, xa, xg, xc⟩ := x
 dsimp only at *
 generalize R.length = n at *
 generalize N.length = n1 at *
 generalize xg.length = xl at *
 have Hd1p : Hid (Bx11 (w.alloc (.cells #[.slice A n c, .slice A1 n1 c1] TD11)) (w.heap.size) (.slice A n c) (.slice A1 n1 c1)) := bx11_new w _ _
 have HLO2p : Hid (w.heap.size ≤ w.heap.size) := Nat.le_refl _
 have HB3p : Hid (Below w.heap.size w (w.alloc (.cells #[.slice A n c, .slice A1 n1 c1] TD11))) := below_alloc (Below.refl _ _) _
 have Hd4p := Lib.hid (Hd1p.out.later (below_alloc (Below.refl _ _) (.cells #[.string s, .string xh, .string xm, .bool xd, .slice xa xl xc] 37)))
 have Hu5p : Hid (Blk5 ((w.alloc (.cells #[.slice A n c, .slice A1 n1 c1] TD11)).alloc (.cells #[.string s, .string xh, .string xm, .bool xd, .slice xa xl xc] 37)) (w.heap.size + 1) (.string s) (.string xh) (.string xm) (.bool xd) (.slice xa xl xc)) := by
  have hq : Blk5 ((w.alloc (.cells #[.slice A n c, .slice A1 n1 c1] TD11)).alloc (.cells #[.string s, .string xh, .string xm, .bool xd, .slice xa xl xc] 37)) (w.alloc (.cells #[.slice A n c, .slice A1 n1 c1] TD11)).heap.size (.string s) (.string xh) (.string xm) (.bool xd) (.slice xa xl xc) := heap_alloc_new (w.alloc (.cells #[.slice A n c, .slice A1 n1 c1] TD11)) _
  simp only [World.size_alloc] at hq
  exact hq
 have HLO6p : Hid (w.heap.size ≤ w.heap.size + 1) := by have := HB3p.out.size; show _ ≤ _; simp at this; omega
 have HB7p := Lib.hid (below_next HB3p.out (below_alloc (Below.refl _ _) (.cells #[.string s, .string xh, .string xm, .bool xd, .slice xa xl xc] 37)))
 have Hd8p := Lib.hid (Hd4p.out.later (below_alloc (Below.refl _ _) (.cells #[.slice none 0 0, .slice none 0 0] TD11)))
 have Hu9p := Lib.hid (blk_later11 Hu5p.out (below_alloc (Below.refl _ _) (.cells #[.slice none 0 0, .slice none 0 0] TD11)))
 have Hr10p : Hid (Bx11 (((w.alloc (.cells #[.slice A n c, .slice A1 n1 c1] TD11)).alloc (.cells #[.string s, .string xh, .string xm, .bool xd, .slice xa xl xc] 37)).alloc (.cells #[.slice none 0 0, .slice none 0 0] TD11)) (w.heap.size + 2) (.slice none 0 0) (.slice none 0 0)) := by
  have hq : Bx11 (((w.alloc (.cells #[.slice A n c, .slice A1 n1 c1] TD11)).alloc (.cells #[.string s, .string xh, .string xm, .bool xd, .slice xa xl xc] 37)).alloc (.cells #[.slice none 0 0, .slice none 0 0] TD11)) ((w.alloc (.cells #[.slice A n c, .slice A1 n1 c1] TD11)).alloc (.cells #[.string s, .string xh, .string xm, .bool xd, .slice xa xl xc] 37)).heap.size (.slice none 0 0) (.slice none 0 0) := bx11_new ((w.alloc (.cells #[.slice A n c, .slice A1 n1 c1] TD11)).alloc (.cells #[.string s, .string xh, .string xm, .bool xd, .slice xa xl xc] 37)) _ _
  simp only [World.size_alloc] at hq
  exact hq
 have HLO11p : Hid (w.heap.size ≤ w.heap.size + 2) := by have := HB7p.out.size; show _ ≤ _; simp at this; omega
 have HB12p := Lib.hid (below_next HB7p.out (below_alloc (Below.refl _ _) (.cells #[.slice none 0 0, .slice none 0 0] TD11)))
 go_enter Tryz.func90, Tryz.ntmps90
 have hd13p := Hd8p.out
 have kx14p := hd13p.c0
 have ky15p := hd13p.c1
 have kp16p := hd13p.f0
 have kq17p := hd13p.f1
 clear hd13p
 have hu18p := Hu9p.out
 have kf19p := hu18p.free
 have kc20p : _ = some (.string s : Value) := hu18p.at_ 0
 have kc21p : _ = some (.string xh : Value) := hu18p.at_ 1
 have kc22p : _ = some (.string xm : Value) := hu18p.at_ 2
 have kc23p : _ = some (.bool xd : Value) := hu18p.at_ 3
 have kc24p : _ = some (.slice xa xl xc : Value) := hu18p.at_ 4
 clear hu18p
 have hr25p := Hr10p.out
 have kx26p := hr25p.c0
 have ky27p := hr25p.c1
 have kp28p := hr25p.f0
 have kq29p := hr25p.f1
 clear hr25p
 go_wp2_with fail
 generalize ((w.alloc (.cells #[.slice A n c, .slice A1 n1 c1] TD11)).alloc (.cells #[.string s, .string xh, .string xm, .bool xd, .slice xa xl xc] 37)).alloc (.cells #[.slice none 0 0, .slice none 0 0] TD11) = wg30p at *
 with_reducible refine (HP0.out wg30p HB12p.out).mono ?_
 rintro e w3 ⟨v, rfl, hp, hb⟩
 clear kx14p ky15p kp16p kq17p kf19p kc20p kc21p kc22p kc23p kc24p kx26p ky27p kp28p kq29p
 have Hd31p := Lib.hid (Hd8p.out.later hb)
 have Hu32p := Lib.hid (blk_later11 Hu9p.out hb)
 have Hr33p := Lib.hid (Hr10p.out.later hb)
 have HB34p := Lib.hid (below_next HB12p.out hb)
 obtain ⟨A3, c3, rfl⟩ := hp.us.shape
 have HP := Lib.hid hp
 clear hp
 generalize R'.length = n3 at *
 clear hb
 have hd35p := Hd31p.out
 have kx36p := hd35p.c0
 have ky37p := hd35p.c1
 have kp38p := hd35p.f0
 have kq39p := hd35p.f1
 clear hd35p
 have hu40p := Hu32p.out
 have kf41p := hu40p.free
 have kc42p : _ = some (.string s : Value) := hu40p.at_ 0
 have kc43p : _ = some (.string xh : Value) := hu40p.at_ 1
 have kc44p : _ = some (.string xm : Value) := hu40p.at_ 2
 have kc45p : _ = some (.bool xd : Value) := hu40p.at_ 3
 have kc46p : _ = some (.slice xa xl xc : Value) := hu40p.at_ 4
 clear hu40p
 have hr47p := Hr33p.out
 have kx48p := hr47p.c0
 have ky49p := hr47p.c1
 have kp50p := hr47p.f0
 have kq51p := hr47p.f1
 clear hr47p
 have Hd52p : Hid (Bx11 (w3.setCell ⟨w.heap.size, 0, none⟩ (.slice A3 n3 c3)) (w.heap.size) (.slice A3 n3 c3) (.slice A1 n1 c1)) := Hd31p.out.set0 _
 have Hu53p : Hid (Blk5 (w3.setCell ⟨w.heap.size, 0, none⟩ (.slice A3 n3 c3)) (w.heap.size + 1) (.string s) (.string xh) (.string xm) (.bool xd) (.slice xa xl xc)) := Hu32p.out.other (by omega) _
 have Hr54p : Hid (Bx11 (w3.setCell ⟨w.heap.size, 0, none⟩ (.slice A3 n3 c3)) (w.heap.size + 2) (.slice none 0 0) (.slice none 0 0)) := Hr33p.out.other (by omega) _
 have HB55p : Hid (Below w.heap.size w (w3.setCell ⟨w.heap.size, 0, none⟩ (.slice A3 n3 c3))) := HB34p.out.setCell (p := ⟨w.heap.size, 0, none⟩) HLO2p.out _
 have hd56p := Hd52p.out
 have kx57p := hd56p.c0
 have ky58p := hd56p.c1
 have kp59p := hd56p.f0
 have kq60p := hd56p.f1
 clear hd56p
 have hu61p := Hu53p.out
 have kf62p := hu61p.free
 have kc63p : _ = some (.string s : Value) := hu61p.at_ 0
 have kc64p : _ = some (.string xh : Value) := hu61p.at_ 1
 have kc65p : _ = some (.string xm : Value) := hu61p.at_ 2
 have kc66p : _ = some (.bool xd : Value) := hu61p.at_ 3
 have kc67p : _ = some (.slice xa xl xc : Value) := hu61p.at_ 4
 clear hu61p
 have hr68p := Hr54p.out
 have kx69p := hr68p.c0
 have ky70p := hr68p.c1
 have kp71p := hr68p.f0
 have kq72p := hr68p.f1
 clear hr68p
 have HS := fin211 HB55p.out Hr54p.out HLO11p.out (.slice A3 n3 c3) (.slice A1 n1 c1)
 have z0 := HS.1.c0
 have z1 := HS.1.c1
 have HKD : Hid (KeepD11 w3 (w3.setCell ⟨w.heap.size, 0, none⟩ (.slice A3 n3 c3))) := Hd31p.out.keep 0 _
 have HPOST := Lib.hid (show ∃ v', Ending.returned (.agg #[.slice A3 n3 c3, .slice A1 n1 c1]) = .returned (.agg #[v', .slice A1 n1 c1]) ∧ Rw11 R' _ v' ∧ Below w.heap.size w _ from ⟨_, rfl, (HP.out.keepD11 (HKD.out.trans HS.2.2)), HS.2.1⟩)
 clear HS
 go_wp2
 refine bodyPost_ret (v := .agg #[.slice A3 n3 c3, .slice A1 n1 c1]) ?_ rfl HPOST.out
 simp [results, Tryz.results90, go_sem, z0, z1]
end Go.Proofs.YthlgmkfofebbfaaGreatDoor

