/-
  The document's board: Right, Note, Has, Lacking, Text.
  Conditions: each theorem's own.
-/
import Derived.Test.YtkcddihigagknaaAdvL
import Derived.Test.YtkcddihigagknaaAdvW
import Derived.Test.YtkcddihigagknaaRefV
namespace Go.Proofs.Ytkcddihigagknaa
open Go.RowKit

/-- The document's board, by its cells. -/
def docA (L : List UInt8) : Array Value := (.int .i64 (L.length : Nat) :: (List.range 7).map fun i => .int .u8 (of16 L i : Nat)).toArray
theorem docA_size (L : List UInt8) : (docA L).size = 8 := by simp [docA]
theorem docA_zero (L : List UInt8) : (docA L)[0]? = some (.int .i64 (L.length : Nat)) := by simp [docA]
theorem docA_at (L : List UInt8) {i : Nat} (hi : i < 7) : (docA L)[i + 1]? = some (.int .u8 (of16 L i : Nat)) := by
  simp [docA, List.getElem?_map, List.getElem?_range hi]
theorem docA_one (L : List UInt8) : (docA L).all (·.oneCell') = true := by
  rw [Array.all_eq_true_iff_forall_mem]
  intro v hv
  simp only [docA, List.mem_toArray, List.mem_cons, List.mem_map] at hv
  rcases hv with rfl | ⟨i, _, rfl⟩ <;> rfl
theorem docA_set (L : List UInt8) {i r : Nat} (hi : i < L.length) (hr : r < 256) : (docA L).setIfInBounds (i + 1) (.int .u8 (r : Int)) = docA (L.set i (UInt8.ofNat r)) := by
  apply Array.ext
  · simp [docA_size]
  · intro j h1 h2
    have hj : j < 8 := by simpa [docA_size] using h1
    have e : ((docA L).setIfInBounds (i + 1) (.int .u8 (r : Int)))[j]? = (docA (L.set i (UInt8.ofNat r)))[j]? := by
      rw [Array.getElem?_setIfInBounds]
      match j with
      | 0 => rw [if_neg (by omega), docA_zero, docA_zero]; simp
      | k + 1 =>
        rw [docA_at _ (by omega), docA_at _ (by omega)]
        by_cases e : i = k
        · subst e
          rw [if_pos rfl, if_pos (by rw [docA_size]; omega)]
          unfold of16
          rw [List.getD_eq_getElem?_getD, List.getElem?_set_self hi]
          have := ofNat_toNat16 hr
          simp only [Option.getD_some, this]
        · rw [if_neg (by omega)]
          unfold of16
          rw [List.getD_eq_getElem?_getD, List.getD_eq_getElem?_getD, List.getElem?_set_ne e]
    rw [Array.getElem?_eq_getElem h1, Array.getElem?_eq_getElem h2] at e
    exact Option.some.inj e
theorem sizeDoc16 : (Try.prog.info? 29).map (·.size) = some 8 := by kernel_rfl
theorem sizeDoc16A (L : List UInt8) : (Try.prog.info? 29).map (·.size) = some (docA L).size := by rw [docA_size]; exact sizeDoc16
theorem zeroDoc16_run (w : World) : (zeroValue 29).run Try.prog w = .ok (.agg (docA [])) w := by
  obtain ⟨i0, hi, hz0, hz1, hz2⟩ := info_parts (show (Try.prog.info? 29).map (fun i => (i.zero, i.size, i.bytes)) = some (some (.agg (docA [])), 8, 16) by kernel_rfl)
  simp [zeroValue, typeInfo, hi, hz0]

/-- They lie at block D. -/
def Doc16 (w : World) (D : Nat) (L : List UInt8) : Prop := w.heap[D]? = some (.cells (docA L) 29 (0, 0))
section
variable {w w' : World} {D : Nat} {L : List UInt8}
theorem Doc16.lt (h : Doc16 w D L) : D < w.heap.size := (Array.getElem?_eq_some_iff.1 h).1
theorem Doc16.c0 (h : Doc16 w D L) : w.cell? ⟨D, 0, none⟩ = some (.int .i64 (L.length : Nat)) := by rw [cell_of_row w D 0 _ _ (0, 0) h, docA_zero]
theorem Doc16.at_ (h : Doc16 w D L) {i : Nat} (hi : i < 7) : w.cell? ⟨D, 1 + i, none⟩ = some (.int .u8 (of16 L i : Nat)) := by rw [cell_of_row w D (1 + i) _ _ (0, 0) h, Nat.add_comm 1 i, docA_at L hi]
theorem Doc16.free (h : Doc16 w D L) (i : Nat) : w.frozen? ⟨D, i, none⟩ = false := by unfold Doc16 at h; simp [World.frozen?, h]
theorem Doc16.turns {S : Nat → Prop} (h : Doc16 w D L) (ht : Turns S w w') (hn : ¬ S D) : Doc16 w' D L := (ht.block D h.lt hn).trans h
theorem Doc16.later (h : Doc16 w D L) (hb : Below w.heap.size w w') : Doc16 w' D L := (hb.block D h.lt).trans h
theorem Doc16.set (h : Doc16 w D L) {i r : Nat} (hi : i < L.length) (hr : r < 256) : Doc16 (w.setCell ⟨D, 1 + i, none⟩ (.int .u8 (r : Int))) D (L.set i (UInt8.ofNat r)) := by
  have e := docA_set L hi hr
  unfold Doc16 at h ⊢
  rw [← e, Nat.add_comm 1 i]
  exact heap_setCell_same w D (i + 1) _ _ _ h
theorem Doc16.store_run (h : Doc16 w D L) (P : Program) (U : List UInt8) : (storeCells ⟨D, 0, none⟩ (docA U).toList).run P w = .ok () (w.setRow D (docA U)) := by
  have := run_storeCells_from (P := P) D 29 (docA U).toList 0 _ w h (by simp [docA_size]) (fun v hv => (Array.all_eq_true_iff_forall_mem.1 (docA_one U)) v (by simpa using hv))
  simpa using this
theorem Doc16.stored (h : Doc16 w D L) (U : List UInt8) : Doc16 (w.setRow D (docA U)) D U := setRow_heap w _ _ _ _ _ h
end
theorem turns_setRow16 (w : World) (g : Nat) (cs : Array Value) : Turns (fun i => i = g) w (w.setRow g cs) :=
  ⟨rfl, rfl, rfl, by simp, fun k _ hk => setRow_other w g k cs hk⟩
theorem results_two16 {P : Program} {fn : Func} {p u : Tmp} {ty : TypeId} (h : fn.results = #[.cell p ty, .tmp u]) (tmps : Array Value) (w : World) (g : Nat) (t : TypeId) (cs : Array Value) (fr : Nat × Nat) (d : TypeDesc)
    (hp : tmps.getD p undef = .pointer (some ⟨g, 0, none⟩)) (hg : w.heap[g]? = some (.cells cs t fr))
    (hu : P.underlying ty = some d) (hd : (match d with | .struct _ | .array _ _ => true | _ => false) = true) (hi : (P.info? ty).map (·.size) = some cs.size) :
    (results fn tmps).run P w = .ok (.tuple #[.agg cs, tmps.getD u undef]) w := by
  have hp' : tmps[p]?.getD undef = .pointer (some ⟨g, 0, none⟩) := by simpa using hp
  rw [results_cell_tmp h]
  simp [hp', asAddr, run_loadVar_row w g t ty cs fr d hg hu hd hi, Result.andThen]

set_option maxRecDepth 100000 in
set_option maxHeartbeats 1000000 in
theorem rRight16_calls (n : Int) (w : World) : Calls Try.prog 7 #[.int .i64 n] w fun e w' => e = .returned (.bool (may16 n)) ∧ w = w' := by
  unfold may16
  cases h3 : n == 3
  case true =>
    rw [Bool.true_or]
    go_enter Try.func7, Try.ntmps7
    go_wp2
    go_ret
    exact ⟨rfl, rfl⟩
  case false =>
    rw [Bool.false_or]
    cases h5 : n == 5
    case true =>
      rw [Bool.true_or]
      go_enter Try.func7, Try.ntmps7
      go_wp2
      go_ret
      exact ⟨rfl, rfl⟩
    case false =>
      rw [Bool.false_or]
      cases h7 : n == 7
      all_goals
        go_enter Try.func7, Try.ntmps7
        go_wp2
        go_ret
        exact ⟨rfl, rfl⟩

/-- A step of Has. -/
theorem has_step16 {r a k : Nat} (h : ∀ j, j < k → a.testBit j = true → r.testBit j = true) (hk : ¬ (a / 2 ^ k % 2 = 1 ∧ r / 2 ^ k % 2 = 0)) : ∀ j, j < k + 1 → a.testBit j = true → r.testBit j = true := fun j hj ha => by
  by_cases e : j < k
  · exact h j e ha
  · obtain rfl : j = k := by omega
    rw [bit16] at ha ⊢
    simp at ha ⊢
    omega
theorem div_step16 (a k : Nat) : a / 2 ^ k / 2 = a / 2 ^ (k + 1) := by rw [Nat.div_div_eq_div_mul, Nat.pow_succ]
set_option maxRecDepth 100000 in
set_option maxHeartbeats 2000000 in
theorem rHas16_calls (r a : Nat) (w : World) (hr : r < 256) (ha : a < 256) : Calls Try.prog 20 #[.int .u8 (r : Int), .int .u8 (a : Int)] w fun e w' => e = .returned (.bool (has16 r a)) ∧ w = w' := by
  obtain ⟨z, hz⟩ : ∃ z, z = has16 r a := ⟨_, rfl⟩
  rw [← hz]
  have HZ := Lib.hid hz
  clear hz
  go_enter Try.func20, Try.ntmps20
  go_wp2
  go_loopg [0, 1, 5] 8 (fun gg s0 s1 s5 wr => ∃ k p q : Nat, k ≤ 8 ∧ 8 - k ≤ gg ∧ s5 = .int .i64 k ∧ s0 = .int .u8 p ∧ s1 = .int .u8 q ∧ Hid (p = r / 2 ^ k ∧ q = a / 2 ^ k ∧ (∀ j, j < k → a.testBit j = true → r.testBit j = true) ∧ w = wr))
  case atStart => exact ⟨0, r, a, Nat.zero_le _, by omega, rfl, rfl, rfl, by simp, by simp, fun j hj => absurd hj (Nat.not_lt_zero _), rfl⟩
  case round =>
    obtain ⟨k, p, q, hk, hg, rfl, rfl, rfl, HK⟩ := hrel
    generalize wr = wo at *
    by_cases hlt : k < 8
    case neg =>
      obtain rfl : k = 8 := by omega
      have e : has16 r a = true := (has16_low ha).2 HK.out.2.2.1
      have he : z = true := HZ.out.trans e
      clear HZ e
      subst he
      go_wp2
      go_ret
      exact ⟨rfl, HK.out.2.2.2⟩
    have hltz : (k : Int) < 8 := by omega
    obtain ⟨hp, hq, hj, hw⟩ := HK.out
    have hp2 : p < 256 := by rw [hp]; exact Nat.lt_of_le_of_lt (Nat.div_le_self _ _) hr
    have hq2 : q < 256 := by rw [hq]; exact Nat.lt_of_le_of_lt (Nat.div_le_self _ _) ha
    have HW := Lib.hid hw
    by_cases hc : q % 2 = 1 ∧ p % 2 = 0
    case pos =>
      have e : has16 r a = false := by
        cases h : has16 r a with
        | false => rfl
        | true =>
          have h1 := (has16_low ha).1 h k hlt (by rw [bit16, ← hq]; simp [hc.1])
          rw [bit16, ← hp] at h1
          simp at h1
          omega
      have he : z = false := HZ.out.trans e
      subst he
      have d1 : ((q : Int) % 2 == 1) = true := by simp; omega
      have d2 : ((p : Int) % 2 == 0) = true := by simp; omega
      clear e hc hp hq hj hw HK HZ
      go_wp2
      go_ret
      exact ⟨rfl, HW.out⟩
    have HN : Hid (((p / 2 : Nat) = r / 2 ^ (k + 1)) ∧ ((q / 2 : Nat) = a / 2 ^ (k + 1)) ∧ (∀ j, j < k + 1 → a.testBit j = true → r.testBit j = true) ∧ w = wo) :=
      ⟨by rw [hp, div_step16], by rw [hq, div_step16], has_step16 hj (by rw [← hp, ← hq]; exact hc), hw⟩
    clear hp hq hj hw HK HW
    by_cases hq1 : q % 2 = 1
    · have d1 : ((q : Int) % 2 == 1) = true := by simp; omega
      have d2 : ((p : Int) % 2 == 0) = false := by simp; omega
      clear hc
      go_wp2
      go_roundg (8 - (k + 1))
      case measure => omega
      case rel => exact ⟨k + 1, p / 2, q / 2, by omega, by omega, by go_num, by go_num, by go_num, HN.out⟩
    · have d1 : ((q : Int) % 2 == 1) = false := by simp; omega
      clear hc
      go_wp2
      go_roundg (8 - (k + 1))
      case measure => omega
      case rel => exact ⟨k + 1, p / 2, q / 2, by omega, by omega, by go_num, by go_num, by go_num, HN.out⟩

set_option maxRecDepth 100000 in
set_option maxHeartbeats 2000000 in
theorem rLacking16_calls (L : List UInt8) (hL : Good16 L) (r : Nat) (hr : r < 256) (w : World) : Calls Try.prog 16 #[.agg (docA L), .int .u8 (r : Int)] w (Fresh w (lacks16 L r L.length)) := by
  obtain ⟨i0, hi, hz0, hz1, hz2⟩ := info_parts infoByte
  have hlen := hL.len
  have HLOW : Hid (∀ i, of16 L i ≤ 3) := hL.of
  have HD0 : Hid (Doc16 (w.alloc (.cells (docA L) 29)) w.heap.size L) := heap_alloc_new w _
  have HB0 := Lib.hid (alloc14 (Below.refl _ w) (.cells (docA L) 29))
  clear hL
  unfold Fresh
  have hc := HD0.out.c0
  obtain ⟨n, hn⟩ : ∃ n, n = L.length := ⟨_, rfl⟩
  rw [← hn] at hc hlen ⊢
  clear hn
  go_enter Try.func16, Try.ntmps16
  go_wp2
  clear hc
  generalize w.alloc (.cells (docA L) 29) = w0 at *
  generalize hD : w.heap.size = D at *
  rw [← hD] at HB0
  go_loopg [5, 9] n (fun gg s5 s9 wr => ∃ k m c' : Nat, ∃ AA : Option Addr, k ≤ n ∧ n - k ≤ gg ∧ s9 = .int .i64 k ∧ s5 = .slice AA m c' ∧ Hid (Lk16 w L r k m AA c' wr ∧ Doc16 wr D L))
  case atStart => exact ⟨0, 0, 0, none, Nat.zero_le _, by omega, rfl, rfl, Lk16.zero L r HB0.out, HD0.out⟩
  case round =>
    clear HD0 HB0
    obtain ⟨k, m, c', AA, hk, hg, rfl, rfl, HK⟩ := hrel
    generalize wr = wo at *
    by_cases hlt : k < n
    case neg =>
      obtain rfl : k = n := by omega
      go_wp2
      go_ret
      obtain ⟨⟨h1, h2, h3, h4⟩, _⟩ := HK.out
      exact ⟨_, rfl, h1 ▸ h2, hD ▸ h3, turns14 h4⟩
    have hltz : (k : Int) < n := by omega
    have hcl := HK.out.2.at_ (i := k) (by omega)
    have hlo : of16 L k ≤ 3 := HLOW.out k
    have HHAS := Lib.hid (fun W => rHas16_calls (of16 L k) r W (by omega) hr)
    have d1 : (0 : Int) ≤ k ∧ (k : Int) < 7 := by omega
    have HOWN := Lib.hid HK.out.1.2.1
    have hcv : IntKind.u8.wrap (k : Int) = k := by rw [IntKind.wrap_u8']; omega
    have hml : m ≤ 7 := by have h1 := HK.out.1.1; have h2 := lacks16_len L r k; omega
    cases hh : has16 (of16 L k) r with
    | true =>
      rw [hh] at HHAS
      have HK2 : Hid (Lk16 w L r (k + 1) m AA c' wo ∧ Doc16 wo D L) := ⟨HK.out.1.yes hh, HK.out.2⟩
      generalize of16 L k = x at *
      clear hh HK HOWN hlo
      go_wp2_with fail
      with_reducible refine (HHAS.out _).mono ?_
      rintro e w1 ⟨rfl, rfl⟩
      clear HHAS
      go_wp2
      go_roundg (n - (k + 1))
      case measure => omega
      case rel => exact ⟨k + 1, m, c', AA, by omega, by omega, by go_num, rfl, HK2.out⟩
    | false =>
      rw [hh] at HHAS
      have HK2 : Hid (∀ W w2 A2 c2, Below wo.heap.size wo W → w2.ownsRow 0 5 1 (.slice A2 (m + 1) c2) (m + 1) (cellsOf (lacks16 L r k) ++ [.int .u8 (k : Int)]) → W.grownBy w2 (Value.ownBlock (.slice AA m c')) → (Value.ownBlock (.slice A2 (m + 1) c2) = Value.ownBlock (.slice AA m c') ∨ Value.ownBlock (.slice A2 (m + 1) c2) = some W.heap.size) → Lk16 w L r (k + 1) (m + 1) A2 c2 w2 ∧ Doc16 w2 D L) := fun W w2 A2 c2 a1 a2 a3 a4 => by
        refine ⟨Lk16.no (W := W) HK.out.1 hh (by omega) a1 a2 a3 a4, ?_⟩
        refine ((HK.out.2.later a1).turns (S := fun i => Value.ownBlock (.slice AA m c') = some i) ((Turns.refl _ W).grown a3 (fun k hk _ => hk)) (fun e => ?_))
        have h1 := HOWN.out
        have hdd := HK.out.2
        rcases h1.2 with ⟨e1, _⟩ | ⟨g, cap, cur, e1, _, hgg, _⟩
        · rw [e1] at e; cases e
        · rw [e1] at e
          have hgD : g = D := by simpa [Value.ownBlock] using e
          subst hgD
          unfold Doc16 at hdd
          rw [hgg] at hdd
          simp at hdd
      generalize of16 L k = x at *
      clear hh HK hlo
      go_wp2_with fail
      with_reducible refine (HHAS.out _).mono ?_
      rintro e w1 ⟨rfl, rfl⟩
      clear HHAS
      go_wp2_with (at_builtin; refine wpList_append_src _ rfl (.tmp 19) (.tmp 22) 40 40 (by rfl) 5 i0 _ 1 1 Try.underlying40 hi hz0 hz1 hz2 rfl (.slice AA m c') m _ (by rfl) (HOWN.out.alloc _) (.slice (some ⟨wo.heap.size, 0, none⟩) 1 1) 1 [.int .u8 (k : Int)] (by rfl) (src_byte16 wo k) (by simp only [maxLen]; omega) (by omega) ?_; intro A2 c2 w2 ho2 hg2 ha2; have HK3 := Lib.hid (HK2.out _ w2 A2 c2 ((Below.refl _ _).alloc (Nat.le_refl _) _) ho2 hg2 ha2); clear ho2 hg2 ha2 HK2)
      go_roundg (n - (k + 1))
      case measure => omega
      case rel => exact ⟨k + 1, m + 1, c2, A2, by omega, by omega, by go_num, rfl, HK3.out⟩

theorem rnum16_calls (k : Nat) (w : World) (hk : k < 256) : Calls Try.prog 36 #[.int .u64 (k : Int), .int .i64 1] w (Says14 (.string (tx14 (le k 1))) w) :=
  (num_at k 1 k 1 w rfl rfl (by omega) (by omega)).mono fun _ _ ⟨he, h⟩ => ⟨he, still14 h⟩
theorem rd_byte16 (w : World) (b : UInt8) : Rd (w.alloc (.cells #[.int .u8 b.toNat] 5)) (.slice (some ⟨w.heap.size, 0, none⟩) 1 1) [b] := by
  refine ⟨_, 1, rfl, fun _ => ⟨_, rfl, by simp, fun j u hj => ?_⟩⟩
  match j, hj with
  | 0, hj => simp [cellsOf] at hj; subst hj; simp [Addr.add]
  | j + 1, hj => simp [cellsOf] at hj

set_option maxRecDepth 100000 in
set_option maxHeartbeats 2000000 in
theorem rText16_calls (L : List UInt8) (hL : Good16 L) (w : World) : Calls Try.prog 33 #[.agg (docA L)] w (Says14 (.string (tx14 (boardB L))) w) := by
  have hlen := hL.len
  have HD0 : Hid (Doc16 (w.alloc (.cells (docA L) 29)) w.heap.size L) := heap_alloc_new w _
  have HB0 := Lib.hid (alloc14 (Below.refl _ w) (.cells (docA L) 29))
  have HLOW : Hid (∀ i, of16 L i ≤ 3) := hL.of
  have HNU := Lib.hid (fun W => rnum16_calls L.length W (by omega))
  have HZE : Hid (tx14 (boardK L 0) = tx14 (le L.length 1)) := hidz (by rw [boardK_zero, List.nil_append])
  have HAL := Lib.hid (boardK_all L)
  have HSU : Hid (∀ k, k < L.length → boardK L (k + 1) = boardK L k ++ le (of16 L k) 1) := fun k hk => boardK_succ L hk
  have hc := HD0.out.c0
  clear hL
  obtain ⟨n, hn⟩ : ∃ n, n = L.length := ⟨_, rfl⟩
  rw [← hn] at hc hlen HNU HZE HAL HSU
  have hcu : IntKind.u64.wrap (n : Int) = n := by rw [IntKind.wrap_u64]; omega
  have HN := Lib.hid hn
  clear hn
  go_enter Try.func33, Try.ntmps33
  go_wp2_with fail
  clear hc
  generalize w.alloc (.cells (docA L) 29) = w0 at *
  generalize hD : w.heap.size = D at *
  with_reducible refine (HNU.out _).mono ?_
  rintro e w1 ⟨rfl, hb1⟩
  rw [← HZE.out]
  have HD1 := Lib.hid (HD0.out.later hb1)
  have HB1 : Hid (Below w.heap.size w w1) := by rw [hD]; exact next14 (a := w) (hD ▸ HB0.out) hb1 |> fun h => hD ▸ h
  have hc := HD1.out.c0
  rw [← HN.out] at hc
  clear hb1 HNU HB0 HD0 HZE
  go_wp2
  clear hc
  go_loopg [3, 11] n (fun gg s3 s11 wr => ∃ k : Nat, ∃ sx : ByteArray, k ≤ n ∧ n - k ≤ gg ∧ s11 = .int .i64 k ∧ s3 = .string sx ∧ Hid (sx = tx14 (boardK L k) ∧ Doc16 wr D L ∧ Below w.heap.size w wr))
  case atStart => exact ⟨0, _, Nat.zero_le _, by omega, rfl, rfl, rfl, HD1.out, HB1.out⟩
  case round =>
    clear HD1 HB1
    obtain ⟨k, sx, hk, hg, rfl, rfl, HK⟩ := hrel
    generalize wr = wo at *
    by_cases hlt : k < n
    case neg =>
      obtain rfl : k = n := by omega
      go_wp2
      go_ret
      exact ⟨by rw [HK.out.1, HAL.out]; rfl, HK.out.2.2⟩
    have hltz : (k : Int) < n := by omega
    have hcl := HK.out.2.1.at_ (i := k) (by omega)
    have d1 : (0 : Int) ≤ k ∧ (k : Int) < 7 := by omega
    obtain ⟨b, hb⟩ : ∃ b : UInt8, b.toNat = of16 L k := ⟨UInt8.ofNat (of16 L k), ofNat_toNat16 (by have := HLOW.out k; omega)⟩
    rw [← hb] at hcl
    have HSX : Hid (tx14 (boardK L k ++ [b]) = tx14 (boardK L (k + 1))) := hidz (by rw [HSU.out k hlt, ← hb, le_one14])
    have hcat := fun W => cat14 W (boardK L k) [b] (by have := boardK_len L k; simp; omega)
    rw [← HK.out.1, HSX.out] at hcat
    have hcv := conv14 (rd_byte16 wo b)
    have HD2 : Hid (Doc16 (wo.alloc (.cells #[.int .u8 b.toNat] 5)) D L) := HK.out.2.1.later (alloc14 (Below.refl _ wo) _)
    have HB2 : Hid (Below w.heap.size w (wo.alloc (.cells #[.int .u8 b.toNat] 5))) := alloc14 HK.out.2.2 _
    clear hb HSX HK
    generalize tx14 [b] = s1 at *
    generalize hs2 : tx14 (boardK L (k + 1)) = s2 at *
    have HS2 := Lib.hid hs2
    clear hs2
    generalize b.toNat = x at *
    go_wp2
    generalize wo.alloc (.cells #[.int .u8 x] 5) = w5 at *
    go_roundg (n - (k + 1))
    case measure => omega
    case rel => exact ⟨k + 1, s2, by omega, by omega, by go_num, rfl, HS2.out.symm, HD2.out, HB2.out⟩
end Go.Proofs.Ytkcddihigagknaa
