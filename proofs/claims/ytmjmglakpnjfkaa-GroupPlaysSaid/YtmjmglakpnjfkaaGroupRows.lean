/-
  The document's rows of names, and of who is in which group, in memory; whether one has a text; whether two are the same; whether one rises.
  Conditions: rows of at most 1000 texts.
-/
import Derived.Test.YtmjmglakpnjfkaaGroupOwn
import Derived.Test.YtmjmglakpnjfkaaRef5
import Derived.BigQuiet
import Derived.Laws.Cover1
namespace Go.Proofs.Ytmjmglakpnjfkaa
open Go.RowKit Go.Maps

def pm10 (m : Who10) : List Value := [.string (tx10 m.1), .string (tx10 m.2)]
theorem pm10_length (M : List Who10) : (M.flatMap pm10).length = M.length * 2 := by
  induction M with
  | nil => rfl
  | cons x M ih => rw [List.flatMap_cons, List.length_append, ih]; simp [pm10]; omega
theorem pm10_at (M : List Who10) (j i : Nat) (hj : j < M.length) (hi : i < 2) : (M.flatMap pm10)[j * 2 + i]? = (pm10 M[j])[i]? := by
  induction M generalizing j with
  | nil => exact absurd hj (Nat.not_lt_zero _)
  | cons q M ih =>
    rw [List.flatMap_cons]
    cases j with
    | zero =>
      rw [List.getElem?_append_left (by simp [pm10]; omega)]
      simp
    | succ j =>
      rw [List.getElem?_append_right (by simp [pm10]; omega)]
      have := ih j (by simpa using hj)
      rw [show (j + 1) * 2 + i - (pm10 q).length = j * 2 + i by simp [pm10]; omega, this]
      simp
theorem infoMem10 : (Try.prog.info? 65).map (fun i => (i.zero, i.size, i.bytes)) = some (some (.agg #[.string ⟨#[]⟩, .string ⟨#[]⟩]), 2, 32) := by kernel_rfl
/-- A row of names; a row of members. -/
def NmR (w : World) (v : Value) (N : List (List UInt8)) : Prop := w.ownsRow 0 9 1 v N.length (N.map encStr)
def MbR (w : World) (v : Value) (M : List Who10) : Prop := w.ownsRow 0 65 2 v M.length (M.flatMap pm10)
theorem ownsRow_keeps10 {w w' : World} {b : Nat} {e size n : Nat} {v : Value} {xs : List Value} (h : w.ownsRow b e size v n xs) (hk : Keeps10 w w') (he : e ≠ 53) : w'.ownsRow b e size v n xs := by
  refine ⟨h.1, ?_⟩
  rcases h.2 with hn | ⟨g, cap, cur, e1, h0, hg, hr⟩
  · exact .inl hn
  · exact .inr ⟨g, cap, cur, e1, h0, hk g _ _ _ hg he, hr⟩
theorem own_up10 {w : World} {b : Nat} {e size n : Nat} {v : Value} {xs : List Value} (h : w.ownsRow 0 e size v n xs) (hb : ∀ j, v.ownBlock = some j → b ≤ j) : w.ownsRow b e size v n xs := by
  refine ⟨h.1, ?_⟩
  rcases h.2 with hn | ⟨g, cap, cur, e1, h0, hg, hr⟩
  · exact .inl hn
  · exact .inr ⟨g, cap, cur, e1, hb g (by rw [e1]; rfl), hg, hr⟩
section
variable {w w' : World} {v : Value} {N : List (List UInt8)} {M : List Who10}
theorem NmR.keeps (h : NmR w v N) (hk : Keeps10 w w') : NmR w' v N := ownsRow_keeps10 h hk (by decide)
theorem MbR.keeps (h : MbR w v M) (hk : Keeps10 w w') : MbR w' v M := ownsRow_keeps10 h hk (by decide)
theorem NmR.later (h : NmR w v N) (hb : Below w.heap.size w w') : NmR w' v N := ownsRow_below10 h hb
theorem MbR.later (h : MbR w v M) (hb : Below w.heap.size w w') : MbR w' v M := ownsRow_below10 h hb
theorem NmR.of {b : Nat} (h : w.ownsRow b 9 1 v N.length (N.map encStr)) : NmR w v N := ownsRow_low10 h (Nat.zero_le _)
theorem MbR.of {b : Nat} (h : w.ownsRow b 65 2 v M.length (M.flatMap pm10)) : MbR w v M := ownsRow_low10 h (Nat.zero_le _)
theorem NmR.nil (w : World) : NmR w (.slice none 0 0) [] := World.ownsRow_nil _ _ _ _
theorem MbR.nil (w : World) : MbR w (.slice none 0 0) [] := World.ownsRow_nil _ _ _ _
theorem NmR.at_ (h : NmR w v N) {k : Nat} (hk : k < N.length) : ∃ g cap, v = .slice (some ⟨g, 0, none⟩) N.length cap ∧ w.cell? ⟨g, k, none⟩ = some (.string (tx10 N[k])) :=
  row10_at h (Turns.refl (fun _ => False) w) (fun _ _ _ _ _ _ f => f) hk
theorem MbR.at_ (h : MbR w v M) {k : Nat} (hk : k < M.length) : ∃ g cap, v = .slice (some ⟨g, 0, none⟩) M.length cap ∧ w.cell? ⟨g, k * 2, none⟩ = some (.string (tx10 M[k].1)) ∧ w.cell? ⟨g, k * 2 + 1, none⟩ = some (.string (tx10 M[k].2)) := by
  rcases h.2 with ⟨rfl, hz⟩ | ⟨g, cap, cur, rfl, hb, hg, r1, r2, r3, r4⟩
  · omega
  · refine ⟨g, cap, rfl, ?_, ?_⟩
    · have h2 : (List.take (M.length * 2) cur.toList)[k * 2]? = some (.string (tx10 M[k].1)) := by rw [r4]; have := pm10_at M k 0 hk (by decide); simpa [pm10] using this
      rw [List.getElem?_take, if_pos (by omega)] at h2
      simpa [World.cell?, hg] using h2
    · have h2 : (List.take (M.length * 2) cur.toList)[k * 2 + 1]? = some (.string (tx10 M[k].2)) := by rw [r4]; have := pm10_at M k 1 hk (by decide); simpa [pm10] using this
      rw [List.getElem?_take, if_pos (by omega)] at h2
      simpa [World.cell?, hg] using h2
theorem NmR.shape (h : NmR w v N) : ∃ A c, v = .slice A N.length c := row10_shape h
theorem MbR.shape (h : MbR w v M) : ∃ A c, v = .slice A M.length c := by
  rcases h.2 with ⟨rfl, hz⟩ | ⟨g, cap, cur, rfl, _⟩
  · exact ⟨none, 0, by rw [hz]⟩
  · exact ⟨_, cap, rfl⟩
theorem NmR.src (h : NmR w v N) : Src Try.prog 1 27 v N.length (N.map encStr) w := by
  rcases h.2 with ⟨rfl, hz⟩ | ⟨g, cap, cur, rfl, hb, hg, r1, r2, r3, r4⟩
  · have : N = [] := List.eq_nil_of_length_eq_zero hz
    subst this
    exact Src.ofNil w Try.underlying27 0
  · refine Src.ofSlice w Try.underlying27 _ _ _ _ h.1 (fun j u hu => ?_) (fun u hu => by obtain ⟨x, _, rfl⟩ := List.mem_map.1 hu; rfl)
    have hj : j < N.length := by have := (List.getElem?_eq_some_iff.1 hu).1; simpa using this
    have h2 : (List.take (N.length * 1) cur.toList)[j]? = some u := by rw [r4]; exact hu
    rw [List.getElem?_take, if_pos (by omega)] at h2
    rw [Addr.add_lit, Nat.zero_add]
    simpa [World.cell?, hg] using h2
theorem MbR.src (h : MbR w v M) : Src Try.prog 2 28 v M.length (M.flatMap pm10) w := by
  rcases h.2 with ⟨rfl, hz⟩ | ⟨g, cap, cur, rfl, hb, hg, r1, r2, r3, r4⟩
  · have : M = [] := List.eq_nil_of_length_eq_zero hz
    subst this
    exact Src.ofNil w Try.underlying28 0
  · refine Src.ofSlice w Try.underlying28 _ _ _ _ h.1 (fun j u hu => ?_) (fun u hu => ?_)
    · have hj : j < M.length * 2 := by have := (List.getElem?_eq_some_iff.1 hu).1; rwa [pm10_length] at this
      have h2 : (List.take (M.length * 2) cur.toList)[j]? = some u := by rw [r4]; exact hu
      rw [List.getElem?_take, if_pos (by omega)] at h2
      rw [Addr.add_lit, Nat.zero_add]
      simpa [World.cell?, hg] using h2
    · obtain ⟨m, _, hm⟩ := List.mem_flatMap.1 hu
      simp only [pm10, List.mem_cons, List.not_mem_nil, or_false] at hm
      rcases hm with rfl | rfl <;> rfl
end
theorem tx10_ne {a : List UInt8} {s : ByteArray} (h : a ≠ s.data.toList) : ((tx10 a).toList == s.toList) = false := by
  rw [Lib.toList_data, Lib.toList_data, tx10_list]; simpa using h
theorem tx10_eq {a : List UInt8} {s : ByteArray} (h : a = s.data.toList) : tx10 a = s := by rw [h, tx10_back]
theorem lessb10 : ∀ a b : List UInt8, Op.bytesLess a b = bytesBefore a b
  | [], [] => by simp [Op.bytesLess, bytesBefore]
  | [], _ :: _ => by simp [Op.bytesLess, bytesBefore]
  | _ :: _, [] => by simp [Op.bytesLess, bytesBefore]
  | a :: r, b :: s => by simp [Op.bytesLess, bytesBefore, lessb10 r s]

set_option maxRecDepth 100000 in
set_option maxHeartbeats 1000000 in
theorem rhas10_calls (v : Value) (N : List (List UInt8)) (s : ByteArray) (w : World) (h12 : N.length ≤ 1000) (hu : NmR w v N) :
    Calls Try.prog 35 #[v, .string s] w (Tells5 (hasT N s.data.toList) w) := by
  obtain ⟨A, c, rfl⟩ := hu.shape
  have HA := Lib.hid hu
  clear hu
  obtain ⟨n, hn⟩ : ∃ n, n = N.length := ⟨_, rfl⟩
  rw [← hn] at HA h12 ⊢
  have HL := Lib.hid hn
  clear hn
  obtain ⟨r, hr⟩ : ∃ r, r = hasT N s.data.toList := ⟨_, rfl⟩
  rw [← hr]
  have HRS := Lib.hid hr
  clear hr
  go_enter Try.func35, Try.ntmps35
  go_wp2
  go_loopg [9] n (fun gg s9 wr => ∃ k : Nat, k ≤ n ∧ n - k ≤ gg ∧ s9 = .int .i64 k ∧ Hid (Below w.heap.size w wr) ∧ Hid (∀ j (h : j < N.length), j < k → N[j] ≠ s.data.toList))
  case atStart => exact ⟨0, Nat.zero_le _, by omega, rfl, Below.refl _ _, fun j _ hj => absurd hj (Nat.not_lt_zero _)⟩
  case round =>
    obtain ⟨k, hk, hg, rfl, HW, A0⟩ := hrel
    by_cases hlt : k < n
    · have hltz : (k : Int) < (n : Int) := by omega
      have hkl : k < N.length := HL.out ▸ hlt
      obtain ⟨g, cx, e2, x0⟩ := (HA.out.later HW.out).at_ hkl
      injection e2 with e2 e2n e2c
      subst e2
      clear e2n e2c
      by_cases he : N[k] = s.data.toList
      · have hs : tx10 N[k] = s := tx10_eq he
        have HGE : Hid (r = true) := HRS.out.trans (hasT_iff.2 (he ▸ List.getElem_mem hkl))
        have n2 : (s.toList == s.toList) = true := by simp
        rw [hs] at x0
        clear he hs A0
        go_wp2
        go_ret
        exact ⟨by rw [HGE.out]; rfl, HW.out⟩
      · have n2 := tx10_ne he
        have n1 : ¬ (tx10 N[k]).toList = s.toList := by simpa using n2
        have HX : Hid (∀ j (h : j < N.length), j < k + 1 → N[j] ≠ s.data.toList) := fun j h hj => by
          by_cases e : j = k
          · subst e; exact he
          · exact A0.out j h (by omega)
        clear he A0
        generalize tx10 N[k] = nm at *
        go_wp2
        go_roundg (n - (k + 1))
        case measure => omega
        case rel => exact ⟨k + 1, by omega, by omega, by go_num, HW, HX⟩
    · have hltz : ¬ (k : Int) < (n : Int) := by omega
      obtain rfl : k = n := by omega
      have HGE : Hid (r = false) := HRS.out.trans (hasT_false.2 fun hm => by
        obtain ⟨j, hj, e⟩ := List.getElem_of_mem hm
        exact A0.out j hj (by have := HL.out; omega) e)
      clear A0
      go_wp2
      go_ret
      exact ⟨by rw [HGE.out]; rfl, HW.out⟩

set_option maxRecDepth 100000 in
set_option maxHeartbeats 1000000 in
theorem lhas10_calls (v : Value) (N : List (List UInt8)) (s : ByteArray) (w : World) (h12 : N.length ≤ 1000) (hu : NmR w v N) :
    Calls Try.prog 17 #[v, .string s] w (Tells5 (hasT N s.data.toList) w) := by
  obtain ⟨A, c, rfl⟩ := hu.shape
  have HA := Lib.hid hu
  clear hu
  obtain ⟨n, hn⟩ : ∃ n, n = N.length := ⟨_, rfl⟩
  rw [← hn] at HA h12 ⊢
  have HL := Lib.hid hn
  clear hn
  obtain ⟨r, hr⟩ : ∃ r, r = hasT N s.data.toList := ⟨_, rfl⟩
  rw [← hr]
  have HRS := Lib.hid hr
  clear hr
  go_enter Try.func17, Try.ntmps17
  go_wp2
  go_loopg [9] n (fun gg s9 wr => ∃ k : Nat, k ≤ n ∧ n - k ≤ gg ∧ s9 = .int .i64 k ∧ Hid (Below w.heap.size w wr) ∧ Hid (∀ j (h : j < N.length), j < k → N[j] ≠ s.data.toList))
  case atStart => exact ⟨0, Nat.zero_le _, by omega, rfl, Below.refl _ _, fun j _ hj => absurd hj (Nat.not_lt_zero _)⟩
  case round =>
    obtain ⟨k, hk, hg, rfl, HW, A0⟩ := hrel
    by_cases hlt : k < n
    · have hltz : (k : Int) < (n : Int) := by omega
      have hkl : k < N.length := HL.out ▸ hlt
      obtain ⟨g, cx, e2, x0⟩ := (HA.out.later HW.out).at_ hkl
      injection e2 with e2 e2n e2c
      subst e2
      clear e2n e2c
      by_cases he : N[k] = s.data.toList
      · have hs : tx10 N[k] = s := tx10_eq he
        have HGE : Hid (r = true) := HRS.out.trans (hasT_iff.2 (he ▸ List.getElem_mem hkl))
        have n2 : (s.toList == s.toList) = true := by simp
        rw [hs] at x0
        clear he hs A0
        go_wp2
        go_ret
        exact ⟨by rw [HGE.out]; rfl, HW.out⟩
      · have n2 := tx10_ne he
        have n1 : ¬ (tx10 N[k]).toList = s.toList := by simpa using n2
        have HX : Hid (∀ j (h : j < N.length), j < k + 1 → N[j] ≠ s.data.toList) := fun j h hj => by
          by_cases e : j = k
          · subst e; exact he
          · exact A0.out j h (by omega)
        clear he A0
        generalize tx10 N[k] = nm at *
        go_wp2
        go_roundg (n - (k + 1))
        case measure => omega
        case rel => exact ⟨k + 1, by omega, by omega, by go_num, HW, HX⟩
    · have hltz : ¬ (k : Int) < (n : Int) := by omega
      obtain rfl : k = n := by omega
      have HGE : Hid (r = false) := HRS.out.trans (hasT_false.2 fun hm => by
        obtain ⟨j, hj, e⟩ := List.getElem_of_mem hm
        exact A0.out j hj (by have := HL.out; omega) e)
      clear A0
      go_wp2
      go_ret
      exact ⟨by rw [HGE.out]; rfl, HW.out⟩

set_option maxRecDepth 100000 in
set_option maxHeartbeats 1000000 in
theorem samet10_calls (v1 v2 : Value) (N : List (List UInt8)) (w : World) (h1 : NmR w v1 N) (h2 : NmR w v2 N) (h12 : N.length ≤ 1000) : Calls Try.prog 10 #[v1, v2] w (Tells5 true w) := by
  obtain ⟨A1, c1, rfl⟩ := h1.shape
  obtain ⟨A2, c2, rfl⟩ := h2.shape
  have HC1 := Lib.hid h1
  have HC2 := Lib.hid h2
  clear h1 h2
  obtain ⟨n, hln⟩ : ∃ n, n = N.length := ⟨_, rfl⟩
  rw [← hln] at HC1 HC2 h12 ⊢
  have HL := Lib.hid hln
  clear hln
  go_enter Try.func10, Try.ntmps10
  go_wp2
  go_loopg [5, 13] n (fun gg _ s13 wr => ∃ k : Nat, k ≤ n ∧ n - k ≤ gg ∧ s13 = .int .i64 k ∧ Hid (Below w.heap.size w wr))
  case atStart => exact ⟨0, Nat.zero_le _, by omega, rfl, Below.refl _ _⟩
  case round =>
    obtain ⟨k, hk, hg, rfl, HW⟩ := hrel
    by_cases hlt : k < n
    · have hltz : (k : Int) < (n : Int) := by omega
      have hkl : k < N.length := HL.out ▸ hlt
      obtain ⟨g1, d1, f1, e1⟩ := (HC1.out.later HW.out).at_ hkl
      obtain ⟨g2, d2, f2, e2⟩ := (HC2.out.later HW.out).at_ hkl
      injection f1 with f1 f1n f1c
      injection f2 with f2 f2n f2c
      subst f1 f2
      clear f1n f1c f2n f2c
      generalize tx10 N[k] = s at *
      have n1 : (s.toList != s.toList) = false := by simp
      have n2 : (s.toList == s.toList) = true := by simp
      go_wp2
      go_quiet (fail)
      go_wp2
      go_roundg (n - (k + 1))
      case measure => omega
      case rel => exact ⟨k + 1, by omega, by omega, by go_num, below_drewN HW.out _⟩
    · have hltz : ¬ (k : Int) < (n : Int) := by omega
      obtain rfl : k = n := by omega
      go_wp2
      go_ret
      exact ⟨rfl, HW.out⟩

set_option maxRecDepth 100000 in
set_option maxHeartbeats 1000000 in
theorem rises10_tells (v : Value) (N : List (List UInt8)) (w : World) (hr : RiseT N) (h1 : NmR w v N) (h12 : N.length ≤ 1000) : Calls Try.prog 16 #[v] w (Tells5 true w) := by
  obtain ⟨A1, c1, rfl⟩ := h1.shape
  have HC1 := Lib.hid h1
  have HR := Lib.hid hr
  clear h1 hr
  obtain ⟨n, hln⟩ : ∃ n, n = N.length := ⟨_, rfl⟩
  rw [← hln] at HC1 h12 ⊢
  have HL := Lib.hid hln
  clear hln
  go_enter Try.func16, Try.ntmps16
  go_wp2
  go_loopg [3] n (fun gg s3 wr => ∃ k : Nat, 1 ≤ k ∧ n - k ≤ gg ∧ s3 = .int .i64 k ∧ k ≤ n + 1 ∧ Hid (Below w.heap.size w wr))
  case atStart => exact ⟨1, Nat.le_refl _, by omega, rfl, by omega, Below.refl _ _⟩
  case round =>
    obtain ⟨k, hk, hg, rfl, hkn, HW⟩ := hrel
    by_cases hlt : k < n
    · have hltz : (k : Int) < (n : Int) := by omega
      have hkl : k < N.length := HL.out ▸ hlt
      obtain ⟨j, hj⟩ : ∃ j, k = j + 1 := ⟨k - 1, by omega⟩
      have hkl1 : j < N.length := by omega
      obtain ⟨g1, d1, f1, e1⟩ := (HC1.out.later HW.out).at_ hkl
      obtain ⟨g2, d2, f2, e2⟩ := (HC1.out.later HW.out).at_ hkl1
      injection f1 with f1 f1n f1c
      subst f1
      injection f2 with f2 f2n f2c
      injection f2 with f2
      injection f2 with f2
      subst f2
      clear f1n f1c f2n f2c
      have hlt2 : bytesBefore N[j] N[k] = true := List.pairwise_iff_getElem.1 HR.out j k hkl1 hkl (by omega)
      have l2 : Op.bytesLess (tx10 N[k]).toList (tx10 N[j]).toList = false := by rw [Lib.toList_data, Lib.toList_data, tx10_list, tx10_list, lessb10]; exact before_anti hlt2
      have l1 : Op.bytesLess (tx10 N[j]).toList (tx10 N[k]).toList = true := by rw [Lib.toList_data, Lib.toList_data, tx10_list, tx10_list, lessb10]; exact hlt2
      have l3 : ((tx10 N[j]).toList == (tx10 N[k]).toList) = false := by
        rw [Lib.toList_data, Lib.toList_data, tx10_list, tx10_list]
        have : N[j] ≠ N[k] := fun e => by rw [e, before_irrefl] at hlt2; cases hlt2
        simpa using this
      have l4 : ¬ (tx10 N[j]).toList = (tx10 N[k]).toList := by simpa using l3
      clear hlt2
      generalize tx10 N[k] = s at *
      generalize tx10 N[j] = t at *
      have z1 : (k : Int) - 1 = (j : Int) := by omega
      have hw : IntKind.i64.wrap (j : Int) = (j : Int) := by rw [IntKind.wrap_i64]; omega
      have hjz : (j : Int) < (n : Int) := by omega
      have hjn : j < n := by omega
      have HJ := Lib.hid hj
      clear hj
      go_wp2
      go_quiet (fail)
      go_wp2
      go_roundg (n - (k + 1))
      case measure => omega
      case rel => exact ⟨k + 1, by omega, by omega, by go_num, by omega, below_drewN HW.out _⟩
    · have hltz : ¬ (k : Int) < (n : Int) := by omega
      go_wp2
      go_ret
      exact ⟨rfl, HW.out⟩
end Go.Proofs.Ytmjmglakpnjfkaa
