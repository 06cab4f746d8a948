/-
  The document's directory: a row of users that rise; who is where, one more, one less, another sum, who begins so.
  Conditions: texts of at most 1000 bytes; rows of at most 12 users.
-/
import Derived.Test.YtclnkboejbnfnaaGreatElderFew
import Derived.Test.YtclnkboejbnfnaaGreatRef5
import Derived.Laws.Cover1
namespace Go.Proofs.YtclnkboejbnfnaaGreat
open Go.RowKit Go.Maps Go.Sort Go.Shelf

theorem less7 : ∀ a b : List UInt8, Op.bytesLess a b = bytesBefore a b
  | [], [] => by simp [Op.bytesLess, bytesBefore]
  | [], _ :: _ => by simp [Op.bytesLess, bytesBefore]
  | _ :: _, [] => by simp [Op.bytesLess, bytesBefore]
  | a :: r, b :: s => by simp [Op.bytesLess, bytesBefore, less7 r s]

theorem ins_end {x : List UInt8 × List UInt8} : ∀ {D : Row7}, (∀ y ∈ D, bytesBefore x.1 y.1 = false) → insE x D = D ++ [x]
  | [], _ => rfl
  | y :: r, h => by
    unfold insE
    rw [h y (by simp), ins_end (fun z hz => h z (by simp [hz]))]
    simp
theorem ins_some {x v : List UInt8 × List UInt8} : ∀ {D : Row7}, (∃ y ∈ D, bytesBefore x.1 y.1 = true) → insE x (D ++ [v]) = insE x D ++ [v]
  | [], h => by obtain ⟨_, h, _⟩ := h; cases h
  | y :: r, h => by
    show insE x (y :: (r ++ [v])) = _
    unfold insE
    cases hb : bytesBefore x.1 y.1
    · have : ∃ z ∈ r, bytesBefore x.1 z.1 = true := by
        obtain ⟨z, hz, hzb⟩ := h
        rcases List.mem_cons.1 hz with rfl | hz
        · rw [hb] at hzb; cases hzb
        · exact ⟨z, hz, hzb⟩
      simp [ins_some this]
    · simp
theorem ins_none {x v : List UInt8 × List UInt8} : ∀ {D : Row7}, (∀ y ∈ D, bytesBefore x.1 y.1 = false) → bytesBefore x.1 v.1 = true → insE x (D ++ [v]) = D ++ [x, v]
  | [], _, hv => by simp [insE, hv]
  | y :: r, h, hv => by
    show insE x (y :: (r ++ [v])) = _
    unfold insE
    rw [h y (by simp), ins_none (fun z hz => h z (by simp [hz])) hv]
    simp

/-- Has one been met that isn't ahead of n? What is written then. -/
def doneP (L : Row7) (n : List UInt8) (k : Nat) : Bool := (L.take k).any fun v => !bytesBefore v.1 n
def outP (L : Row7) (n h : List UInt8) (k : Nat) : Row7 := if doneP L n k then insE (n, h) (delE (L.take k) n) else delE (L.take k) n

theorem rise_take {L : Row7} (hr : Rise7 L) {k : Nat} (hk : k < L.length) : ∀ y ∈ L.take k, bytesBefore y.1 L[k].1 = true := by
  intro y hy
  obtain ⟨j, hj, rfl⟩ := List.getElem_of_mem hy
  rw [List.getElem_take]
  exact List.pairwise_iff_getElem.1 hr j k _ hk (by simp at hj; omega)
theorem doneP_step {L : Row7} {n : List UInt8} {k : Nat} (hk : k < L.length) : doneP L n (k + 1) = (doneP L n k || !bytesBefore L[k].1 n) := by
  unfold doneP
  rw [List.take_succ_eq_append_getElem hk, List.any_append]
  simp
theorem del_snoc (P : Row7) (v : List UInt8 × List UInt8) (n : List UInt8) : delE (P ++ [v]) n = delE P n ++ if v.1 = n then [] else [v] := by
  unfold delE
  rw [List.filter_append]
  by_cases e : v.1 = n <;> simp [e]
theorem outP_step {L : Row7} (hr : Rise7 L) {n h : List UInt8} {k : Nat} (hk : k < L.length) :
    (doneP L n k = false → bytesBefore L[k].1 n = true → outP L n h (k + 1) = outP L n h k ++ [L[k]] ∧ L[k].1 ≠ n) ∧
    (doneP L n k = false → bytesBefore L[k].1 n = false → L[k].1 = n → outP L n h (k + 1) = outP L n h k ++ [(n, h)]) ∧
    (doneP L n k = false → bytesBefore L[k].1 n = false → L[k].1 ≠ n → outP L n h (k + 1) = outP L n h k ++ [(n, h)] ++ [L[k]]) ∧
    (doneP L n k = true → outP L n h (k + 1) = outP L n h k ++ [L[k]] ∧ L[k].1 ≠ n ∧ bytesBefore L[k].1 n = false) := by
  have hup := rise_take hr hk
  have hst := doneP_step (n := n) hk
  have hdl : delE (L.take (k + 1)) n = delE (L.take k) n ++ if L[k].1 = n then [] else [L[k]] := by rw [List.take_succ_eq_append_getElem hk, del_snoc]
  have hno : doneP L n k = false → ∀ y ∈ delE (L.take k) n, bytesBefore n y.1 = false := fun hd y hy => by
    have hy' := (mem_del.1 hy).1
    unfold doneP at hd
    have := List.any_eq_false.1 hd y hy'
    have hb : bytesBefore y.1 n = true := by simpa using this
    exact before_anti hb
  refine ⟨fun hd hb => ?_, fun hd hb e => ?_, fun hd hb e => ?_, fun hd => ?_⟩
  · have hne := before_ne hb
    refine ⟨?_, hne⟩
    unfold outP
    rw [hst, hd, hb, hdl, if_neg hne]
    simp
  · unfold outP
    rw [hst, hd, hb, hdl, if_pos e, List.append_nil]
    simp [ins_end (x := (n, h)) (hno hd)]
  · have hlt : bytesBefore n L[k].1 = true := by
      rcases WideAt.bytes_total L[k].1 n e with h' | h'
      · rw [hb] at h'; cases h'
      · exact h'
    unfold outP
    rw [hst, hd, hb, hdl, if_neg e]
    simp [ins_none (x := (n, h)) (v := L[k]) (hno hd) hlt]
  · obtain ⟨y, hy, hyb⟩ := List.any_eq_true.1 (show (L.take k).any (fun v => !bytesBefore v.1 n) = true from hd)
    have hyb' : bytesBefore y.1 n = false := by simpa using hyb
    have hlt : bytesBefore n L[k].1 = true := by
      by_cases e : y.1 = n
      · rw [← e]; exact hup y hy
      · rcases WideAt.bytes_total y.1 n e with h' | h'
        · rw [hyb'] at h'; cases h'
        · exact WideShapes.bytes_trans _ _ _ h' (hup y hy)
    have hne : L[k].1 ≠ n := fun e => (before_ne hlt) e.symm
    refine ⟨?_, hne, before_anti hlt⟩
    unfold outP
    rw [hst, hd, hdl, if_neg hne]
    simp only [Bool.true_or, if_true]
    by_cases hs : ∃ y ∈ delE (L.take k) n, bytesBefore (n, h).1 y.1 = true
    · exact ins_some hs
    · have hs' : ∀ y ∈ delE (L.take k) n, bytesBefore (n, h).1 y.1 = false := fun y hy => by
        cases hb : bytesBefore (n, h).1 y.1
        · rfl
        · exact absurd ⟨y, hy, hb⟩ hs
      rw [ins_none hs' hlt, ins_end hs']
      simp
theorem outP_end {L : Row7} (n h : List UInt8) : putE L n h = if doneP L n L.length then outP L n h L.length else outP L n h L.length ++ [(n, h)] := by
  unfold outP putE
  rw [List.take_length]
  cases hd : doneP L n L.length
  · simp only [Bool.false_eq_true, if_false]
    refine ins_end fun y hy => ?_
    unfold doneP at hd
    rw [List.take_length] at hd
    have hb : bytesBefore y.1 n = true := by simpa using List.any_eq_false.1 hd y (mem_del.1 hy).1
    exact before_anti hb
  · simp
theorem outP_length (L : Row7) (n h : List UInt8) (k : Nat) : (outP L n h k).length ≤ L.length + 1 := by
  have h1 : (delE (L.take k) n).length ≤ L.length := Nat.le_trans (List.length_filter_le _ _) (by simp; omega)
  unfold outP
  split
  · rw [ins_length]; omega
  · omega

/-- The row of users v, whole. -/
def Row7At (L : Row7) (w : World) (v : Value) : Prop := w.ownsRow 0 64 5 v L.length (L.flatMap usr7)
theorem Row7At.us {L : Row7} {w : World} {v : Value} (h : Row7At L w v) : Us7 w v L := Us7.of_users (base := 0) h
theorem Row7At.keeps {L : Row7} {w w' : World} {v : Value} (h : Row7At L w v) (hk : Keeps7 w w') : Row7At L w' v := by
  refine ⟨h.1, ?_⟩
  rcases h.2 with hn | ⟨g, cap, cur, e, h0, hg, hr⟩
  · exact .inl hn
  · exact .inr ⟨g, cap, cur, e, h0, hk g _ _ _ hg (by decide), hr⟩
theorem Row7At.later {L : Row7} {w w' : World} {v : Value} (h : Row7At L w v) (hb : Below w.heap.size w w') : Row7At L w' v := h.keeps (Keeps7.of_below hb)
theorem Row7At.of_own {L : Row7} {w : World} {b : Nat} {v : Value} (h : w.ownsRow b 64 5 v L.length (L.flatMap usr7)) : Row7At L w v := ownsRow_base_a h (Nat.zero_le _)
theorem Row7At.nil (w : World) : Row7At [] w (.slice none 0 0) := World.ownsRow_nil _ _ _ _
theorem Us7.at_ {w : World} {A : Option Addr} {c n : Nat} {L : Row7} (h : Us7 w (.slice A n c) L) (k : Nat) (hk : k < L.length) :
    ∃ g, A = some ⟨g, 0, none⟩ ∧ w.cell? ⟨g, k * 5, none⟩ = some (.string (tx7 L[k].1)) ∧ w.cell? ⟨g, k * 5 + 1, none⟩ = some (.string (tx7 L[k].2)) ∧ w.cell? ⟨g, k * 5 + 2, none⟩ = some (.string ⟨#[]⟩) ∧ w.cell? ⟨g, k * 5 + 3, none⟩ = some (.bool false) ∧ w.cell? ⟨g, k * 5 + 4, none⟩ = some (.slice none 0 0) := by
  obtain ⟨A', c', e, hc⟩ := h
  injection e with e1 e2 e3
  obtain ⟨g, eg, hcell⟩ := hc k hk
  exact ⟨g, by rw [e1, eg], hcell 0 _ rfl, hcell 1 _ rfl, hcell 2 _ rfl, hcell 3 _ rfl, hcell 4 _ rfl⟩
theorem Us7.shape {w : World} {v : Value} {L : Row7} (h : Us7 w v L) : ∃ A c, v = .slice A L.length c := by
  obtain ⟨A, c, e, _⟩ := h
  exact ⟨A, c, e⟩
theorem tx7_ne {a : List UInt8} {s : ByteArray} (h : a ≠ s.data.toList) : ¬ (tx7 a).toList = s.toList := by
  rw [Lib.toList_data, Lib.toList_data, tx7_list]; exact h
theorem tx7_eq {a : List UInt8} {s : ByteArray} (h : a = s.data.toList) : tx7 a = s := by rw [h, tx7_back]

/-- What Find tells. -/
def Found7 (L : Row7) (n : List UInt8) (w : World) (e : Ending) (w' : World) : Prop :=
  ∃ r : Int, e = .returned (.int .i64 r) ∧ ((hasE L n = false ∧ r = -1) ∨ (hasE L n = true ∧ ∃ i : Nat, ∃ h : i < L.length, r = i ∧ L[i].1 = n)) ∧ Below w.heap.size w w'

set_option maxRecDepth 100000 in
set_option maxHeartbeats 1000000 in
theorem rfind7_calls (A : Option Addr) (c n : Nat) (L : Row7) (s : ByteArray) (w : World) (hn : n = L.length) (h12 : n ≤ 12) (hu : Us7 w (.slice A n c) L) :
    Calls Tryz.prog 37 #[.slice A n c, .string s] w (Found7 L s.data.toList w) := by
  have HU := Lib.hid hu
  have HL := Lib.hid hn
  clear hu hn
  go_enter Tryz.func37, Tryz.ntmps37
  go_wp2
  go_loopg [5, 6, 9] n (fun gg _ _ s9 wr => ∃ k : Nat, k ≤ n ∧ n - k ≤ gg ∧ s9 = .int .i64 k ∧ Hid (Below w.heap.size w wr) ∧ Hid (∀ j (h : j < L.length), j < k → L[j].1 ≠ s.data.toList))
  case atStart => exact ⟨0, Nat.zero_le _, by omega, rfl, Below.refl _ _, fun j _ hj => absurd hj (Nat.not_lt_zero _)⟩
  case round =>
    obtain ⟨k, hk, hg, rfl, HW, A0⟩ := hrel
    by_cases hlt : k < n
    · have hltz : (k : Int) < (n : Int) := by omega
      have hkl : k < L.length := HL.out ▸ hlt
      obtain ⟨g, rfl, c0, c1, c2, c3, c4⟩ := (HU.out.later HW.out).at_ k hkl
      have HB := Lib.hid (below_next HW.out (below_alloc (Below.refl wr.heap.size wr) (.cells #[.string (tx7 L[k].1), .string (tx7 L[k].2), .string ⟨#[]⟩, .bool false, .slice none 0 0] 64)))
      by_cases he : L[k].1 = s.data.toList
      · have hs : tx7 L[k].1 = s := tx7_eq he
        have n2 : (s.toList == s.toList) = true := by simp
        have HR : Hid (Found7 L s.data.toList w (.returned (.int .i64 (k : Int))) (wr.alloc (.cells #[.string s, .string (tx7 L[k].2), .string ⟨#[]⟩, .bool false, .slice none 0 0] 64))) := by
          rw [hs] at HB
          exact ⟨_, rfl, .inr ⟨hasE_iff.2 ⟨L[k], List.getElem_mem hkl, he⟩, k, hkl, rfl, he⟩, HB.out⟩
        rw [hs] at c0
        clear he hs HB A0
        generalize tx7 L[k].2 = sh at *
        go_wp2
        go_ret
        exact HR.out
      · have n1 := tx7_ne he
        have n2 : ((tx7 L[k].1).toList == s.toList) = false := by simpa using n1
        have HX : Hid (∀ j (h : j < L.length), j < k + 1 → L[j].1 ≠ s.data.toList) := fun j h hj => by
          by_cases e : j = k
          · subst e; exact he
          · exact A0.out j h (by omega)
        clear he A0
        generalize tx7 L[k].1 = nm at *
        generalize tx7 L[k].2 = sh at *
        go_wp2
        go_roundg (n - (k + 1))
        case measure => omega
        case rel => exact ⟨k + 1, by omega, by omega, by go_num, HB, HX⟩
    · have hltz : ¬ (k : Int) < (n : Int) := by omega
      obtain rfl : k = n := by omega
      have HR : Hid (Found7 L s.data.toList w (.returned (.int .i64 (-1))) wr) := by
        refine ⟨_, rfl, .inl ⟨?_, rfl⟩, HW.out⟩
        cases hh : hasE L s.data.toList
        · rfl
        · obtain ⟨p, hp, he⟩ := hasE_iff.1 hh
          obtain ⟨j, hj, rfl⟩ := List.getElem_of_mem hp
          exact absurd he (A0.out j hj (by have := HL.out; omega))
      clear A0
      go_wp2
      go_ret
      exact HR.out

theorem own_ne7 {w : World} {base n size : Nat} {e : TypeId} {v : Value} {xs : List Value} (h : w.ownsRow base e size v n xs) : some w.heap.size ≠ v.ownBlock := fun he => by
  have := (h.lt _ he.symm).2
  omega

/-- A user with a name and a sum, in a block. -/
structure UsC7 (w : World) (B : Nat) (s h : ByteArray) : Prop where
  lt : B < w.heap.size
  c0 : w.cell? ⟨B, 0, none⟩ = some (.string s)
  c1 : w.cell? ⟨B, 1, none⟩ = some (.string h)
  c2 : w.cell? ⟨B, 2, none⟩ = some (.string ⟨#[]⟩)
  c3 : w.cell? ⟨B, 3, none⟩ = some (.bool false)
  c4 : w.cell? ⟨B, 4, none⟩ = some (.slice none 0 0)
theorem usc7_new (w : World) (s h : ByteArray) : UsC7 (w.alloc (.cells #[.string s, .string h, .string ⟨#[]⟩, .bool false, .slice none 0 0] 64)) w.heap.size s h := by
  refine ⟨by simp, ?_, ?_, ?_, ?_, ?_⟩
  all_goals
    rw [World.cell?_alloc_at _ _ _ _ rfl]
    rfl
theorem UsC7.of_heap {w W : World} {B : Nat} {s h : ByteArray} (hx : UsC7 w B s h) (he : W.heap[B]? = w.heap[B]?) : UsC7 W B s h := by
  have hB := hx.lt
  have hc : ∀ i, W.cell? ⟨B, i, none⟩ = w.cell? ⟨B, i, none⟩ := fun i => World.cell?_of_block he
  refine ⟨?_, (hc 0).trans hx.c0, (hc 1).trans hx.c1, (hc 2).trans hx.c2, (hc 3).trans hx.c3, (hc 4).trans hx.c4⟩
  rw [Array.getElem?_eq_getElem hB] at he
  exact (Array.getElem?_eq_some_iff.1 he).1
theorem UsC7.below_at {w W : World} {B : Nat} {s h : ByteArray} (hx : UsC7 w B s h) {n : Nat} (hn : B < n) (hb : Below n w W) : UsC7 W B s h := hx.of_heap (hb.block B hn)

/-- All blocks but the row's own stay. -/
def Keeps7' (v : Value) (w w' : World) : Prop := ∀ k, k < w.heap.size → some k ≠ v.ownBlock → w'.heap[k]? = w.heap[k]?

/-- A row of the call's own, behind an append of one user: what it has; nothing of before has turned. -/
theorem own7_app {w1 wr w2 : World} {v v2 : Value} {L : Row7} {o : Obj} {q : List UInt8 × List UInt8} (hb : Below w1.heap.size w1 wr) (hu : wr.ownsRow w1.heap.size 64 5 v L.length (L.flatMap usr7)) (ho : w2.ownsRow w1.heap.size 64 5 v2 (L.length + 1) (L.flatMap usr7 ++ usr7 q)) (hg : (wr.alloc o).grownBy w2 v.ownBlock) :
    Below w1.heap.size w1 w2 ∧ w2.ownsRow w1.heap.size 64 5 v2 (L ++ [q]).length ((L ++ [q]).flatMap usr7) ∧ Keeps7' v wr w2 := by
  refine ⟨(below_next hb (below_alloc (Below.refl _ _) _)).grown hg (by have := hb.size; simp; omega) (fun j hj => (hu.lt j hj).1), ?_, ?_⟩
  · rw [List.length_append, List.flatMap_append]
    simpa using ho
  · intro k hk hne
    exact (hg.block k (by simp; omega) hne).trans (Below.heap_alloc _ _ k hk)

set_option maxRecDepth 100000 in
set_option maxHeartbeats 4000000 in
theorem rput7_calls (A : Option Addr) (c n : Nat) (L : Row7) (s h : ByteArray) (w : World) (hn : n = L.length) (h12 : n ≤ 12) (hr : Rise7 L) (hu : Us7 w (.slice A n c) L) :
    Calls Tryz.prog 55 #[.slice A n c, .agg #[.string s, .string h, .string ⟨#[]⟩, .bool false, .slice none 0 0]] w fun e w' => ∃ v, e = .returned v ∧ Row7At (putE L s.data.toList h.data.toList) w' v ∧ Below w.heap.size w w' := by
  have hnot : ∀ (x : Bool) (w : World), (Op.unary .not (.bool x)).run Tryz.prog w = .ok (.bool (!x)) w := fun _ _ => rfl
  have HA := Lib.hid hu
  have HL := Lib.hid hn
  have HRI := Lib.hid hr
  clear hu hn hr
  obtain ⟨i0, hi, hz0, hz1, hz2⟩ := info_parts infoUser7
  have HB1 := Lib.hid (below_alloc (Below.refl w.heap.size w) (.cells #[.string s, .string h, .string ⟨#[]⟩, .bool false, .slice none 0 0] 64))
  have HU0 : Hid (UsC7 (w.alloc (.cells #[.string s, .string h, .string ⟨#[]⟩, .bool false, .slice none 0 0] 64)) w.heap.size s h) := usc7_new w s h
  go_enter Tryz.func55, Tryz.ntmps55
  go_wp2
  generalize w.alloc (.cells #[.string s, .string h, .string ⟨#[]⟩, .bool false, .slice none 0 0] 64) = w1 at *
  have hblt : w.heap.size < w1.heap.size := HU0.out.lt
  generalize hub : w.heap.size = ub at *
  go_loopg [5, 6, 8, 11] n (fun gg s5 s6 _ s11 wr => ∃ k : Nat, k ≤ n ∧ n - k ≤ gg ∧ s11 = .int .i64 k ∧ s6 = .bool (doneP L s.data.toList k) ∧ Hid (Below w1.heap.size w1 wr) ∧ Hid (wr.ownsRow w1.heap.size 64 5 s5 (outP L s.data.toList h.data.toList k).length ((outP L s.data.toList h.data.toList k).flatMap usr7)))
  case atStart => exact ⟨0, Nat.zero_le _, by omega, rfl, rfl, Below.refl _ _, World.ownsRow_nil _ _ _ _⟩
  case round =>
    obtain ⟨k, hk, hg, rfl, rfl, HW, HU⟩ := hrel
    have hlen := outP_length L s.data.toList h.data.toList k
    rw [← HL.out] at hlen
    have HUB := Lib.hid (HU0.out.below_at hblt HW.out)
    by_cases hlt : k < n
    · have hltz : (k : Int) < (n : Int) := by omega
      have hkl : k < L.length := HL.out ▸ hlt
      have hbw : Below ub w wr := HB1.out.trans (HW.out.mono (Nat.le_of_lt hblt))
      obtain ⟨g, rfl, c0, c1, c2, c3, c4⟩ := (HA.out.later (hub ▸ hbw)).at_ k hkl
      obtain ⟨q1, q2, q3, q4⟩ := outP_step (h := h.data.toList) (n := s.data.toList) HRI.out hkl
      have hst := doneP_step (n := s.data.toList) hkl
      have HQ1 := Lib.hid q1
      have HQ2 := Lib.hid q2
      have HQ3 := Lib.hid q3
      have HQ4 := Lib.hid q4
      have HST := Lib.hid hst
      have HTL : Hid ((tx7 L[k].1).data.toList = L[k].1) := tx7_list _
      have HTH : Hid ((tx7 L[k].2).data.toList = L[k].2) := tx7_list _
      have HUQ : Hid (usr7 L[k] = [.string (tx7 L[k].1), .string (tx7 L[k].2), .string ⟨#[]⟩, .bool false, .slice none 0 0]) := rfl
      have HUN : Hid (usr7 (s.data.toList, h.data.toList) = [.string s, .string h, .string ⟨#[]⟩, .bool false, .slice none 0 0]) := by
        show _ = _
        unfold usr7
        rw [tx7_back, tx7_back]
      clear q1 q2 q3 q4 hst hbw
      generalize hLk : L[k] = qk at *
      generalize tx7 qk.1 = nm at *
      generalize tx7 qk.2 = sh at *
      have HLK := Lib.hid hLk
      clear hLk
      rw [← HTL.out] at HQ1 HQ2 HQ3 HQ4 HST
      have HLS : Hid (∀ b, bytesBefore nm.data.toList s.data.toList = b → ∀ b2, decide (nm.data.toList = s.data.toList) = b2 → (Op.bytesLess s.toList nm.toList || s.toList == nm.toList) = !b ∧ (nm.toList == s.toList) = b2) := fun b hb b2 hb2 => by
        rw [Lib.toList_data, Lib.toList_data, less7]
        refine ⟨?_, by rw [← hb2, Bool.eq_iff_iff]; simp⟩
        subst hb
        by_cases e : s.data.toList = nm.data.toList
        · rw [e, before_irrefl]; simp
        · rcases WideAt.bytes_total _ _ e with h' | h'
          · rw [h', before_anti h']; simp
          · rw [before_anti h', h']; simpa using e
      generalize hdn : doneP L s.data.toList k = dn at *
      have HDN := Lib.hid hdn
      clear hdn
      have HWV := Lib.hid (below_next HW.out (below_alloc (Below.refl wr.heap.size wr) (.cells #[.string nm, .string sh, .string ⟨#[]⟩, .bool false, .slice none 0 0] 64)))
      have HUV := Lib.hid (HU.out.alloc (.cells #[.string nm, .string sh, .string ⟨#[]⟩, .bool false, .slice none 0 0] 64))
      have HVC := Lib.hid (usc7_new wr nm sh)
      have HUC := Lib.hid (HUB.out.below_at (Nat.lt_of_lt_of_le hblt HW.out.size) (below_alloc (Below.refl wr.heap.size wr) (.cells #[.string nm, .string sh, .string ⟨#[]⟩, .bool false, .slice none 0 0] 64)))
      generalize hbb : bytesBefore nm.data.toList s.data.toList = bb at *
      generalize hee : decide (nm.data.toList = s.data.toList) = ee at *
      obtain ⟨hle, heq⟩ := HLS.out bb rfl ee rfl
      have HEE : Hid (∀ b, ee = b → decide (nm.data.toList = s.data.toList) = b) := fun b hb => by rw [hee, hb]
      have HBB : Hid (bytesBefore nm.data.toList s.data.toList = bb) := hbb
      clear hbb hee HLS
      have hul : ub < wr.heap.size := HUB.out.lt
      have u0 := HUB.out.c0
      have u1 := HUB.out.c1
      have u2 := HUB.out.c2
      have u3 := HUB.out.c3
      have u4 := HUB.out.c4
      cases dn with
      | true =>
        obtain ⟨e1, e2, e3⟩ := HQ4.out rfl
        have e2' : nm.data.toList ≠ s.data.toList := e2
        obtain rfl : ee = false := by rw [← HEE.out ee rfl]; exact decide_eq_false e2'
        have HE1 := Lib.hid e1
        clear e1 e2 e2' e3 hle HQ1 HQ2 HQ3 HQ4
        go_wp2_with (first
        | (at_builtin; refine wpList_append_own _ rfl _ _ 27 rfl w1.heap.size 64 i0 (.agg #[.string ⟨#[]⟩, .string ⟨#[]⟩, .string ⟨#[]⟩, .bool false, .slice none 0 0]) 5 80 Tryz.underlying27 hi hz0 hz1 hz2 rfl (by decide) _ _ _ rfl (HUV.out.alloc _) ⟨wr.heap.size + 1, 0, none⟩ 1 1 [.string nm, .string sh, .string ⟨#[]⟩, .bool false, .slice none 0 0] rfl rfl (fun j u hu => by rw [Addr.add_lit, Nat.zero_add, World.cell?_alloc_at _ _ _ _ (by simp)]; simpa using hu) (by simp [Value.oneCell']) (by unfold maxLen; omega) (by omega) (by have := HW.out.size; simp; omega) ?_; intro v2 w2 hown' hgrow _; have HOw2 := Lib.hid hown'; have HGw2 := Lib.hid hgrow; clear hown' hgrow)
        | fail)
        have ho := HOw2.out
        rw [← HUQ.out] at ho
        obtain ⟨r1, r2, _⟩ := own7_app HWV.out HUV.out ho HGw2.out
        have R1 := Lib.hid r1
        have R2 := Lib.hid r2
        clear r1 r2 ho
        go_roundg (n - (k + 1))
        case measure => omega
        case rel => exact ⟨k + 1, by omega, by omega, by go_num, by rw [HST.out]; rfl, R1, (show Hid _ from by rw [HE1.out]; exact R2.out)⟩
      | false =>
        cases bb with
        | true =>
          obtain ⟨e1, e2⟩ := HQ1.out rfl rfl
          have e2' : nm.data.toList ≠ s.data.toList := e2
          obtain rfl : ee = false := by rw [← HEE.out ee rfl]; exact decide_eq_false e2'
          have l1 : Op.bytesLess s.toList nm.toList = false := by
            rw [Lib.toList_data, Lib.toList_data, less7]; exact before_anti HBB.out
          have l2 : (s.toList == nm.toList) = false := by
            rw [Lib.toList_data, Lib.toList_data]; exact beq_eq_false_iff_ne.2 (fun e => e2' e.symm)
          have HE1 := Lib.hid e1
          clear e1 e2 e2' hle HQ1 HQ2 HQ3 HQ4
          go_wp2_with (first
          | (at_builtin; refine wpList_append_own _ rfl _ _ 27 rfl w1.heap.size 64 i0 (.agg #[.string ⟨#[]⟩, .string ⟨#[]⟩, .string ⟨#[]⟩, .bool false, .slice none 0 0]) 5 80 Tryz.underlying27 hi hz0 hz1 hz2 rfl (by decide) _ _ _ rfl (HUV.out.alloc _) ⟨wr.heap.size + 1, 0, none⟩ 1 1 [.string nm, .string sh, .string ⟨#[]⟩, .bool false, .slice none 0 0] rfl rfl (fun j u hu => by rw [Addr.add_lit, Nat.zero_add, World.cell?_alloc_at _ _ _ _ (by simp)]; simpa using hu) (by simp [Value.oneCell']) (by unfold maxLen; omega) (by omega) (by have := HW.out.size; simp; omega) ?_; intro v2 w2 hown' hgrow _; have HOw2 := Lib.hid hown'; have HGw2 := Lib.hid hgrow; clear hown' hgrow)
          | fail)
          have ho := HOw2.out
          rw [← HUQ.out] at ho
          obtain ⟨r1, r2, _⟩ := own7_app HWV.out HUV.out ho HGw2.out
          have R1 := Lib.hid r1
          have R2 := Lib.hid r2
          clear r1 r2 ho
          go_roundg (n - (k + 1))
          case measure => omega
          case rel => exact ⟨k + 1, by omega, by omega, by go_num, by rw [HST.out]; rfl, R1, (show Hid _ from by rw [HE1.out]; exact R2.out)⟩
        | false =>
          by_cases e : nm.data.toList = s.data.toList
          · obtain rfl : ee = true := by rw [← HEE.out ee rfl]; exact decide_eq_true e
            have l2 : (s.toList == nm.toList) = true := by
              rw [Lib.toList_data, Lib.toList_data, e]; simp
            have e1 := HQ2.out rfl rfl e
            have HE1 := Lib.hid e1
            clear e1 e hle HQ1 HQ2 HQ3 HQ4
            go_wp2_with (first
            | (at_builtin; refine wpList_append_own _ rfl _ _ 27 rfl w1.heap.size 64 i0 (.agg #[.string ⟨#[]⟩, .string ⟨#[]⟩, .string ⟨#[]⟩, .bool false, .slice none 0 0]) 5 80 Tryz.underlying27 hi hz0 hz1 hz2 rfl (by decide) _ _ _ rfl (HUV.out.alloc _) ⟨wr.heap.size + 1, 0, none⟩ 1 1 [.string s, .string h, .string ⟨#[]⟩, .bool false, .slice none 0 0] rfl rfl (fun j u hu => by rw [Addr.add_lit, Nat.zero_add, World.cell?_alloc_at _ _ _ _ (by simp)]; simpa using hu) (by simp [Value.oneCell']) (by unfold maxLen; omega) (by omega) (by have := HW.out.size; simp; omega) ?_; intro v2 w2 hown' hgrow _; have HOw2 := Lib.hid hown'; have HGw2 := Lib.hid hgrow; clear hown' hgrow; have hap := own7_app HWV.out HUV.out (by have ho := HOw2.out; rw [← HUN.out] at ho; exact ho) HGw2.out; have HR2 := Lib.hid hap.1; have HR3 := Lib.hid hap.2.1; have HVC2 := Lib.hid (HVC.out.of_heap (hap.2.2 _ HVC.out.lt (own_ne7 HU.out))); have HUC2 := Lib.hid (HU0.out.below_at hblt HR2.out); clear hap; have d0 := HVC2.out.c0; have d1 := HVC2.out.c1; have d2 := HVC2.out.c2; have d3 := HVC2.out.c3; have d4 := HVC2.out.c4; have x0 := HUC2.out.c0)
            | fail)
            have R1 := Lib.hid HR2.out
            have R2 := Lib.hid HR3.out
            go_roundg (n - (k + 1))
            case measure => omega
            case rel => exact ⟨k + 1, by omega, by omega, by go_num, by rw [HST.out]; rfl, R1, (show Hid _ from by rw [HE1.out]; exact R2.out)⟩
          · obtain rfl : ee = false := by rw [← HEE.out ee rfl]; exact decide_eq_false e
            have l1 : Op.bytesLess s.toList nm.toList = true := by
              rw [Lib.toList_data, Lib.toList_data, less7]
              rcases WideAt.bytes_total _ _ e with h' | h'
              · rw [HBB.out] at h'; cases h'
              · exact h'
            have l2 : (s.toList == nm.toList) = false := by
              rw [Lib.toList_data, Lib.toList_data]; exact beq_eq_false_iff_ne.2 (fun e' => e e'.symm)
            have e1 := HQ3.out rfl rfl e
            have HE1 := Lib.hid e1
            clear e1 e hle HQ1 HQ2 HQ3 HQ4
            go_wp2_with (first
            | (at_builtin; refine wpList_append_own _ rfl _ _ 27 rfl w1.heap.size 64 i0 (.agg #[.string ⟨#[]⟩, .string ⟨#[]⟩, .string ⟨#[]⟩, .bool false, .slice none 0 0]) 5 80 Tryz.underlying27 hi hz0 hz1 hz2 rfl (by decide) _ _ _ rfl (HUV.out.alloc _) ⟨wr.heap.size + 1, 0, none⟩ 1 1 [.string s, .string h, .string ⟨#[]⟩, .bool false, .slice none 0 0] rfl rfl (fun j u hu => by rw [Addr.add_lit, Nat.zero_add, World.cell?_alloc_at _ _ _ _ (by simp)]; simpa using hu) (by simp [Value.oneCell']) (by unfold maxLen; omega) (by omega) (by have := HW.out.size; simp; omega) ?_; intro v2 w2 hown' hgrow _; have HOw2 := Lib.hid hown'; have HGw2 := Lib.hid hgrow; clear hown' hgrow; have hap := own7_app HWV.out HUV.out (by have ho := HOw2.out; rw [← HUN.out] at ho; exact ho) HGw2.out; have HR2 := Lib.hid hap.1; have HR3 := Lib.hid hap.2.1; have HVC2 := Lib.hid (HVC.out.of_heap (hap.2.2 _ HVC.out.lt (own_ne7 HU.out))); have HUC2 := Lib.hid (HU0.out.below_at hblt HR2.out); clear hap; have d0 := HVC2.out.c0; have d1 := HVC2.out.c1; have d2 := HVC2.out.c2; have d3 := HVC2.out.c3; have d4 := HVC2.out.c4; have x0 := HUC2.out.c0)
            | (at_builtin; refine wpList_append_own _ rfl _ _ 27 rfl w1.heap.size 64 i0 (.agg #[.string ⟨#[]⟩, .string ⟨#[]⟩, .string ⟨#[]⟩, .bool false, .slice none 0 0]) 5 80 Tryz.underlying27 hi hz0 hz1 hz2 rfl (by decide) _ _ _ rfl (HOw2.out.alloc _) ⟨w2.heap.size, 0, none⟩ 1 1 [.string nm, .string sh, .string ⟨#[]⟩, .bool false, .slice none 0 0] rfl rfl (fun j u hu => by rw [Addr.add_lit, Nat.zero_add, World.cell?_alloc_at _ _ _ _ (by simp)]; simpa using hu) (by simp [Value.oneCell']) (by unfold maxLen; omega) (by omega) (by have := HR2.out.size; simp; omega) ?_; intro v3 w3 hown' hgrow _; have HOw3 := Lib.hid hown'; have HGw3 := Lib.hid hgrow; clear hown' hgrow)
            | fail)
            have ho := HOw3.out
            rw [← HUN.out, ← HUQ.out] at ho
            obtain ⟨r1, r2, _⟩ := own7_app (q := qk) HR2.out HR3.out (by rw [List.length_append, List.flatMap_append]; simpa using ho) HGw3.out
            have R1 := Lib.hid r1
            have R2 := Lib.hid r2
            clear r1 r2 ho
            go_roundg (n - (k + 1))
            case measure => omega
            case rel => exact ⟨k + 1, by omega, by omega, by go_num, by rw [HST.out]; rfl, R1, (show Hid _ from by rw [HE1.out]; exact R2.out)⟩
    · have hltz : ¬ (k : Int) < (n : Int) := by omega
      obtain rfl : k = n := by omega
      have hend := outP_end (L := L) s.data.toList h.data.toList
      rw [← HL.out] at hend
      have HEND := Lib.hid hend
      have HUN : Hid (usr7 (s.data.toList, h.data.toList) = [.string s, .string h, .string ⟨#[]⟩, .bool false, .slice none 0 0]) := by
        show _ = _
        unfold usr7
        rw [tx7_back, tx7_back]
      clear hend
      generalize doneP L s.data.toList k = dn at *
      have u0 := HUB.out.c0
      have u1 := HUB.out.c1
      have u2 := HUB.out.c2
      have u3 := HUB.out.c3
      have u4 := HUB.out.c4
      have HWW : Hid (∀ W, Below w1.heap.size w1 W → Below ub w W) := fun W hb => HB1.out.trans (hb.mono (Nat.le_of_lt hblt))
      cases dn with
      | true =>
        go_wp2
        go_ret
        refine ⟨_, rfl, ?_, HWW.out _ HW.out⟩
        rw [HEND.out]
        exact Row7At.of_own HU.out
      | false =>
        go_wp2_with (first
        | (at_builtin; refine wpList_append_own _ rfl _ _ 27 rfl w1.heap.size 64 i0 (.agg #[.string ⟨#[]⟩, .string ⟨#[]⟩, .string ⟨#[]⟩, .bool false, .slice none 0 0]) 5 80 Tryz.underlying27 hi hz0 hz1 hz2 rfl (by decide) _ _ _ rfl (HU.out.alloc _) ⟨wr.heap.size, 0, none⟩ 1 1 [.string s, .string h, .string ⟨#[]⟩, .bool false, .slice none 0 0] rfl rfl (fun j u hu => by rw [Addr.add_lit, Nat.zero_add, World.cell?_alloc_at _ _ _ _ (by simp)]; simpa using hu) (by simp [Value.oneCell']) (by unfold maxLen; omega) (by omega) (by have := HW.out.size; simp; omega) ?_; intro v2 w2 hown' hgrow _; have HOw2 := Lib.hid hown'; have HGw2 := Lib.hid hgrow; clear hown' hgrow)
        | fail)
        go_ret
        have ho := HOw2.out
        rw [← HUN.out] at ho
        obtain ⟨r1, r2, _⟩ := own7_app HW.out HU.out ho HGw2.out
        refine ⟨_, rfl, ?_, HWW.out _ r1⟩
        rw [HEND.out]
        exact Row7At.of_own r2
end Go.Proofs.YtclnkboejbnfnaaGreat
