/-
  The document's Text of a table; the law's Same: a table that has what the document's has.
  Conditions: each theorem's own.
-/
import Derived.Test.YtadecmjojnhlnaaTabD
import Derived.Test.YtadecmjojnhlnaaOpSame
namespace Go.Proofs.Ytadecmjojnhlnaa
open Go.RowKit

/-- What each operation makes. -/
def YRq15 (n : Nat) (k : Nat) (v : Value) (s1 s2 s3 : ByteArray) : Nat → Value → Prop
  | 0, x => x = .pointer (some ⟨n, 0, none⟩)
  | 1, x => x = .int .i64 k
  | 2, x => x = .int .u64 k
  | 3, x => x = .string s1
  | 4, x => x = .pointer (some ⟨n, 1, none⟩)
  | 5, x => x = v
  | 6, x => x = .string s2
  | 7, x => x = .string s3
  | 8, x => x = .string s3
  | _, _ => True
theorem rrow15_calls (A : Option Addr) (c : Nat) (ss : List ByteArray) (w : World) (hr : RdS w A ss) (ht : Txs14 ss) : Calls Try.prog 56 #[.slice A ss.length c] w (Says14 (.string (tx14 (rowB ss))) w) :=
  (refrow_calls A c ss w hr ht.1 ht.2).mono fun _ _ ⟨he, h⟩ => ⟨he, still14 h⟩
theorem rnum15_calls (k : Nat) (w : World) (hk : k < 256) : Calls Try.prog 44 #[.int .u64 k, .int .i64 1] w (Says14 (.string (tx14 (le k 1))) w) :=
  (num_at k 1 k 1 w rfl rfl (by omega) (by omega)).mono fun _ _ ⟨he, h⟩ => ⟨he, still14 h⟩

set_option maxRecDepth 100000 in
set_option maxHeartbeats 1000000 in
theorem rPutD15_calls (k : Nat) (A : Option Addr) (c : Nat) (ss : List ByteArray) (w : World) (hk : k < 256) (hr : RdS w A ss) (ht : Txs14 ss) :
    Calls Try.prog 46 #[.agg #[.int .i64 k, .slice A ss.length c]] w (Says14 (.string (tx14 (repB14 k ss))) w) := by
  have hb1 := alloc14 (Below.refl _ w) (.cells #[.int .i64 (k : Int), .slice A ss.length c] 42)
  have ha1 : (w.alloc (.cells #[.int .i64 (k : Int), .slice A ss.length c] 42)).heap[w.heap.size]? = some (.cells #[.int .i64 (k : Int), .slice A ss.length c] 42 (0, 0)) := heap_alloc_new w _
  have HNU := Lib.hid (fun W => rnum15_calls k W hk)
  have hok := tls14_ok (k := k) ht
  have hcv : IntKind.u64.wrap (k : Int) = k := by rw [IntKind.wrap_u64]; omega
  have hadd : ∀ W, (Op.stringOp .add (tx14 (le k 1)) (tx14 (rowB (tls14 k ss)))).run Try.prog W = .ok (.string (tx14 (repB14 k ss))) W := fun W => cat14 W _ _ (by
    have := rowB_len14 hok.2 hok.1
    rw [le_length]
    omega)
  by_cases he : k = 0
  · have e0 : tls14 k ss = ss := by unfold tls14; rw [if_pos (by omega)]
    have HRW : Hid (∀ W, Below w.heap.size w W → Calls Try.prog 56 #[.slice A ss.length c] W (Says14 (.string (tx14 (rowB (tls14 k ss)))) W)) := fun W hb => by rw [e0]; exact rrow15_calls A c ss W (hr.later14 hb) ht
    have d0 : ((k : Int) != 0) = false := by simp; omega
    clear hok ht hr e0 he hk
    have HADD := Lib.hid hadd
    generalize tx14 (repB14 k ss) = s3 at *
    generalize tx14 (rowB (tls14 k ss)) = s2 at *
    generalize tx14 (le k 1) = s1 at *
    generalize ss.length = n at *
    have HB1 := Lib.hid hb1
    have HA1 := Lib.hid ha1
    clear hb1 ha1 hadd
    go_enter Try.func46, Try.ntmps46
    go_wp2
    generalize w.alloc (.cells #[.int .i64 (k : Int), .slice A n c] 42) = w1 at *
    have K0 : w1.cell? ⟨w.heap.size, 0, none⟩ = some (.int .i64 k) := by rw [cell_of_row w1 _ 0 _ _ (0, 0) HA1.out]; rfl
    have K1 : w1.cell? ⟨w.heap.size, 1, none⟩ = some (.slice A n c) := by rw [cell_of_row w1 _ 1 _ _ (0, 0) HA1.out]; rfl
    have LT0 : w.heap.size < w1.heap.size := (Array.getElem?_eq_some_iff.1 HA1.out).1
    have HK0 := Lib.hid K0
    have HK1 := Lib.hid K1
    clear K0 K1
    refine wp_region_inv (by kernel_rfl) (fun W => Below w1.heap.size w1 W) (fun j v _ => YRq15 w.heap.size k (.slice A n c) s1 s2 s3 j v) ?F ?hF (by kernel_rfl) (by kernel_rfl) (drew14 (Below.refl _ _)) ?step ?fin
    case hF =>
      intro x
      simp only [List.map_cons, List.map_nil, putL, Act.put, List.setIfInBounds_toArray, List.set_cons_zero, List.set_cons_succ, Nat.zero_add, Nat.reduceAdd]
      exact rfl
    case step =>
      refine ⟨?_, ?_, ?_, ?_, ?_, ?_, ?_, ?_, ?_, trivial⟩
      all_goals intro x W hW hdep K hK
      · clear hdep
        go_simp
        exact hK _ _ rfl hW (fun _ _ h => h)
      · have h0 : x 0 = _ := hdep 0 rfl
        have k0 := (hW.cell (p := ⟨w.heap.size, 0, none⟩) LT0).trans HK0.out
        clear hdep
        simp only [h0] at hK
        go_simp
        exact hK _ _ rfl hW (fun _ _ h => h)
      · have h1 : x 1 = _ := hdep 1 rfl
        clear hdep
        simp only [h1] at hK
        go_simp
        exact hK _ _ rfl hW (fun _ _ h => h)
      · have h2 : x 2 = _ := hdep 2 rfl
        clear hdep
        simp only [h2] at hK
        go_simp
        refine (HNU.out W).mono ?_
        rintro e W' ⟨rfl, hb⟩
        exact hK _ _ rfl (next14 hW hb) (fun _ _ h => h)
      · clear hdep
        go_simp
        exact hK _ _ rfl hW (fun _ _ h => h)
      · have h4 : x 4 = _ := hdep 4 rfl
        have k1 := (hW.cell (p := ⟨w.heap.size, 1, none⟩) LT0).trans HK1.out
        clear hdep
        simp only [h4] at hK
        go_simp
        exact hK _ _ rfl hW (fun _ _ h => h)
      · have h5 : x 5 = _ := hdep 5 rfl
        clear hdep
        simp only [h5] at hK
        go_simp
        refine (HRW.out W (next14 HB1.out hW)).mono ?_
        rintro e W' ⟨rfl, hb⟩
        exact hK _ _ rfl (next14 hW hb) (fun _ _ h => h)
      · have h3 : x 3 = _ := hdep 3 rfl
        have h6 : x 6 = _ := hdep 6 rfl
        have hadd := HADD.out
        clear hdep
        simp only [h3, h6] at hK
        go_simp
        exact hK _ _ rfl hW (fun _ _ h => h)
      · have h7 : x 7 = _ := hdep 7 rfl
        clear hdep
        simp only [h7] at hK
        go_simp
        exact hK _ _ rfl hW (fun _ _ h => h)
    case fin =>
      intro x W hW hY
      have h8 : x 8 = .string s3 := hY 8 (by decide)
      have HB7 := Lib.hid (next14 HB1.out hW)
      clear hY hW
      rw [h8]
      go_wp2
      go_ret
      exact ⟨rfl, HB7.out⟩
  · have e0 : tls14 k ss = [] := by unfold tls14; rw [if_neg (by omega)]
    have HRW : Hid (∀ W, Below w.heap.size w W → Calls Try.prog 56 #[.slice none 0 0] W (Says14 (.string (tx14 (rowB (tls14 k ss)))) W)) := fun W hb => by rw [e0]; exact rrow15_calls none 0 [] W (fun h => absurd rfl h) ⟨Nat.zero_le _, fun s hs => by cases hs⟩
    have d0 : ((k : Int) != 0) = true := by simp; omega
    clear hok ht hr e0 he hk
    have HADD := Lib.hid hadd
    generalize tx14 (repB14 k ss) = s3 at *
    generalize tx14 (rowB (tls14 k ss)) = s2 at *
    generalize tx14 (le k 1) = s1 at *
    generalize ss.length = n at *
    have hb2 : Below w.heap.size w (w.alloc (.cells #[.int .i64 (k : Int), .slice none 0 0] 42)) := alloc14 (Below.refl _ w) _
    have ha2 : (w.alloc (.cells #[.int .i64 (k : Int), .slice none 0 0] 42)).heap[w.heap.size]? = some (.cells #[.int .i64 (k : Int), .slice none 0 0] 42 (0, 0)) := heap_alloc_new w _
    have HB1 := Lib.hid hb2
    have HA1 := Lib.hid ha2
    clear hb1 ha1 hadd hb2 ha2
    go_enter Try.func46, Try.ntmps46
    go_wp2
    generalize w.alloc (.cells #[.int .i64 (k : Int), .slice none 0 0] 42) = w1 at *
    have K0 : w1.cell? ⟨w.heap.size, 0, none⟩ = some (.int .i64 k) := by rw [cell_of_row w1 _ 0 _ _ (0, 0) HA1.out]; rfl
    have K1 : w1.cell? ⟨w.heap.size, 1, none⟩ = some (.slice none 0 0) := by rw [cell_of_row w1 _ 1 _ _ (0, 0) HA1.out]; rfl
    have LT0 : w.heap.size < w1.heap.size := (Array.getElem?_eq_some_iff.1 HA1.out).1
    have HK0 := Lib.hid K0
    have HK1 := Lib.hid K1
    clear K0 K1
    refine wp_region_inv (by kernel_rfl) (fun W => Below w1.heap.size w1 W) (fun j v _ => YRq15 w.heap.size k (.slice none 0 0) s1 s2 s3 j v) ?F2 ?hF2 (by kernel_rfl) (by kernel_rfl) (drew14 (Below.refl _ _)) ?step2 ?fin2
    case hF2 =>
      intro x
      simp only [List.map_cons, List.map_nil, putL, Act.put, List.setIfInBounds_toArray, List.set_cons_zero, List.set_cons_succ, Nat.zero_add, Nat.reduceAdd]
      exact rfl
    case step2 =>
      refine ⟨?_, ?_, ?_, ?_, ?_, ?_, ?_, ?_, ?_, trivial⟩
      all_goals intro x W hW hdep K hK
      · clear hdep
        go_simp
        exact hK _ _ rfl hW (fun _ _ h => h)
      · have h0 : x 0 = _ := hdep 0 rfl
        have k0 := (hW.cell (p := ⟨w.heap.size, 0, none⟩) LT0).trans HK0.out
        clear hdep
        simp only [h0] at hK
        go_simp
        exact hK _ _ rfl hW (fun _ _ h => h)
      · have h1 : x 1 = _ := hdep 1 rfl
        clear hdep
        simp only [h1] at hK
        go_simp
        exact hK _ _ rfl hW (fun _ _ h => h)
      · have h2 : x 2 = _ := hdep 2 rfl
        clear hdep
        simp only [h2] at hK
        go_simp
        refine (HNU.out W).mono ?_
        rintro e W' ⟨rfl, hb⟩
        exact hK _ _ rfl (next14 hW hb) (fun _ _ h => h)
      · clear hdep
        go_simp
        exact hK _ _ rfl hW (fun _ _ h => h)
      · have h4 : x 4 = _ := hdep 4 rfl
        have k1 := (hW.cell (p := ⟨w.heap.size, 1, none⟩) LT0).trans HK1.out
        clear hdep
        simp only [h4] at hK
        go_simp
        exact hK _ _ rfl hW (fun _ _ h => h)
      · have h5 : x 5 = _ := hdep 5 rfl
        clear hdep
        simp only [h5] at hK
        go_simp
        refine (HRW.out W (next14 HB1.out hW)).mono ?_
        rintro e W' ⟨rfl, hb⟩
        exact hK _ _ rfl (next14 hW hb) (fun _ _ h => h)
      · have h3 : x 3 = _ := hdep 3 rfl
        have h6 : x 6 = _ := hdep 6 rfl
        have hadd := HADD.out
        clear hdep
        simp only [h3, h6] at hK
        go_simp
        exact hK _ _ rfl hW (fun _ _ h => h)
      · have h7 : x 7 = _ := hdep 7 rfl
        clear hdep
        simp only [h7] at hK
        go_simp
        exact hK _ _ rfl hW (fun _ _ h => h)
    case fin2 =>
      intro x W hW hY
      have h8 : x 8 = .string s3 := hY 8 (by decide)
      have HB7 := Lib.hid (next14 HB1.out hW)
      clear hY hW
      rw [h8]
      go_wp2
      go_ret
      exact ⟨rfl, HB7.out⟩

theorem step_load15 {P : Program} {ops : Array Oper} {o : Oper} {a : Act} {w : World} {K : Act → World → Prop} {Q : Exit → Act → World → Prop} {E : Prop} (hw : Region.wanted o (yielded ops a.tmps) = true) (ty : TypeId) (x : Operand) (ho : o.op = .load ty x)
    (B : Nat) (hx : a.eval x = .pointer (some ⟨B, 0, none⟩)) (t : TypeId) (T : Nat → R15) (hn : Tab15 w B t T) (e : TypeId) (hu : P.underlying ty = some (.array 8 e)) (hi : (P.info? ty).map (·.size) = some 24)
    (h : K (a.put o.dst (.agg (tabA T))) w) : if Region.wanted o (yielded ops a.tmps) = true then Oper.wp P o a w K Q else E := by
  rw [if_pos hw]
  exact wp_load_row ty x ho B hx t (tabA T) (0, 0) _ hn hu rfl (by rw [tabA_size]; exact hi) h
theorem rindex15_run (T : Nat → R15) (k : Nat) (hk : k < 8) (w : World) : (Instr.index 46 (.agg (tabA T)) (.int .i64 (k : Int))).run Try.prog w = .ok (T k).v w := by
  obtain ⟨i0, hi, hz1⟩ : ∃ i0, Try.prog.info? 44 = some i0 ∧ i0.size = 3 := by
    have : (Try.prog.info? 44).map (·.size) = some 3 := by kernel_rfl
    rw [Option.map_eq_some_iff] at this
    exact this
  have hex : (tabA T).extract (k * 3) (k * 3 + 3) = #[(T k).cell 0, (T k).cell 1, (T k).cell 2] := by
    apply Array.ext
    · simp [tabA_size]; omega
    · intro j h1 h2
      have hj : j < 3 := by simpa using h2
      have e1 := tabA_at T k j hk hj
      rw [Array.getElem?_eq_getElem (by rw [tabA_size]; omega)] at e1
      rw [Array.getElem_extract, Option.some.inj e1]
      match j, hj with
      | 0, _ => rfl
      | 1, _ => rfl
      | 2, _ => rfl
  have hu := Try.underlying46
  have hu1 := Try.underlying44
  simp [Instr.index, asIntOf, run_underlying hu, part, isAgg, run_underlying hu1, sizeOf, typeInfo, hi, hz1, hex, R15.v, R15.cell]
  intro h
  omega
/-- A row of the document's in a block. -/
def DRow15 (w : World) (X : Nat) (n e : Nat) (v : Value) : Prop := w.heap[X]? = some (.cells #[.int .u64 n, .int .i64 e, v] 44 (0, 0))
theorem DRow15.cells {w : World} {X n e : Nat} {v : Value} (h : DRow15 w X n e v) : w.cell? ⟨X, 0, none⟩ = some (.int .u64 n) ∧ w.cell? ⟨X, 1, none⟩ = some (.int .i64 e) ∧ w.cell? ⟨X, 2, none⟩ = some v := by
  refine ⟨?_, ?_, ?_⟩
  all_goals rw [cell_of_row w X _ _ _ (0, 0) h]; rfl

set_option maxRecDepth 100000 in
set_option maxHeartbeats 4000000 in
theorem rText15_calls {w : World} {U : Nat → R15} (hU : ∀ i, i < 8 → RdS w (U i).A (U i).ss) (hM : ∀ i, i < 8 → MayP15 (U i).p) :
    Calls Try.prog 33 #[.agg (tabA U)] w (Says14 (.string (tx14 (tabB15 (fun i => (U i).p)))) w) := by
  have hb1 := alloc14 (Below.refl _ w) (.cells (tabA U) 46)
  have hx1 : (w.alloc (.cells (tabA U) 46)).heap[w.heap.size]? = some (.cells (tabA U) 46 (0, 0)) := heap_alloc_new w _
  have HB1 := Lib.hid hb1
  have HX1 := Lib.hid hx1
  have HU := Lib.hid hU
  have HM := Lib.hid hM
  clear hb1 hx1 hU hM
  have he0 : (tx14 []) = ⟨#[]⟩ := rfl
  go_enter Try.func33, Try.ntmps33
  go_wp2_with (with_reducible refine wpList_load_row rfl 46 (.tmp 1) rfl w.heap.size rfl 46 (tabA U) (0, 0) _ HX1.out Try.underlying46 rfl (by rw [tabA_size]; exact sizeDoc15) ?_)
  generalize w.alloc (.cells (tabA U) 46) = w1 at *
  clear HX1 he0
  go_loopg [3, 7] 8 (fun gg s3 s7 wr => ∃ k : Nat, k ≤ 8 ∧ 8 - k ≤ gg ∧ s7 = .int .i64 k ∧ s3 = .string (tx14 (rowsB15 (fun i => (U i).p) k)) ∧ Hid (Below w.heap.size w wr))
  case atStart => exact ⟨0, Nat.zero_le _, by omega, rfl, rfl, HB1.out⟩
  case round =>
    clear HB1
    obtain ⟨k, hk, hg, rfl, rfl, HW⟩ := hrel
    generalize wr = wo at *
    by_cases hlt : k < 8
    case neg =>
      obtain rfl : k = 8 := by omega
      go_wp2
      go_ret
      exact ⟨rfl, HW.out⟩
    have hi := fun W => rindex15_run U k hlt W
    unfold R15.v at hi
    have hm := HM.out k hlt
    have hlen := rowsB_len15 HM.out k hk
    have hrl := repB_len15 hm
    have hn : (U k).n ≤ 1099511627776 := hm.n
    have he : (U k).e ≤ 18 := hm.e
    have hfew : (U k).ss.length ≤ 10 ∧ ∀ s ∈ (U k).ss, s.size ≤ 50 := ⟨hm.few, hm.lit⟩
    have HNX : Hid (rowsB15 (fun i => (U i).p) (k + 1) = rowsB15 (fun i => (U i).p) k ++ (le (U k).n 8 ++ if 0 < (U k).n then textB (tx14 (repB14 (U k).e (U k).ss)) else [])) := rowsB15_succ _ k
    have hrl2 : (repB14 (U k).e (U k).ss).length ≤ 523 := hrl
    have HNU : Hid (∀ W, Calls Try.prog 44 #[.int .u64 (U k).n, .int .i64 8] W (Says14 (.string (tx14 (le (U k).n 8))) W)) := fun W => (num_at (U k).n 8 (U k).n 8 W rfl rfl (by omega) (by omega)).mono fun _ _ ⟨h1, h2⟩ => ⟨h1, still14 h2⟩
    have HPU : Hid (∀ W, Below w.heap.size w W → Calls Try.prog 46 #[.agg #[.int .i64 (U k).e, .slice (U k).A (U k).ss.length (U k).c]] W (Says14 (.string (tx14 (repB14 (U k).e (U k).ss))) W)) := fun W hW => rPutD15_calls (U k).e (U k).A (U k).c (U k).ss W (by omega) ((HU.out k hlt).later14 hW) ⟨by omega, fun s hs => by have := hfew.2 s hs; omega⟩
    have HTE : Hid (∀ W, Calls Try.prog 45 #[.string (tx14 (repB14 (U k).e (U k).ss))] W (Says14 (.string (tx14 (textB (tx14 (repB14 (U k).e (U k).ss))))) W)) := fun W => rtext14_calls _ W (by rw [tx14_size]; omega)
    have hadd1 : ∀ W, (Op.stringOp .add (tx14 (rowsB15 (fun i => (U i).p) k)) (tx14 (le (U k).n 8))).run Try.prog W = .ok (.string (tx14 (rowsB15 (fun i => (U i).p) k ++ le (U k).n 8))) W := fun W => cat14 W _ _ (by rw [le_length]; omega)
    have hadd2 : ∀ W, (Op.stringOp .add (tx14 (rowsB15 (fun i => (U i).p) k ++ le (U k).n 8)) (tx14 (textB (tx14 (repB14 (U k).e (U k).ss))))).run Try.prog W = .ok (.string (tx14 (rowsB15 (fun i => (U i).p) k ++ le (U k).n 8 ++ textB (tx14 (repB14 (U k).e (U k).ss))))) W := fun W => cat14 W _ _ (by rw [List.length_append, le_length, textB_length, tx14_size]; omega)
    have HAD2 := Lib.hid hadd2
    clear hadd2 hm hrl hrl2 hn he hfew
    generalize hbs : rowsB15 (fun i => (U i).p) k = bs at *
    generalize (U k).n = n at *
    generalize (U k).e = e at *
    generalize (U k).A = A at *
    generalize (U k).c = q at *
    generalize (U k).ss = ss at *
    generalize repB14 e ss = rb at *
    generalize ss.length = m at *
    generalize hs1 : tx14 bs = sb at *
    generalize hs2 : tx14 (bs ++ le n 8) = sc at *
    have HSC := Lib.hid hs2
    clear hs1 hs2 hbs
    have hRX : DRow15 (wo.alloc (.cells #[.int .u64 n, .int .i64 e, .slice A m q] 44)) wo.heap.size n e (.slice A m q) := heap_alloc_new wo _
    have HRX := Lib.hid hRX
    have HW1 := Lib.hid (alloc14 HW.out (.cells #[.int .u64 n, .int .i64 e, .slice A m q] 44))
    have c0 := hRX.cells.1
    clear hRX
    go_wp2_with fail
    generalize wo.alloc (.cells #[.int .u64 n, .int .i64 e, .slice A m q] 44) = w3 at *
    with_reducible refine (HNU.out _).mono ?_
    rintro e' w4 ⟨rfl, hb⟩
    have hX4 : DRow15 w4 wo.heap.size n e (.slice A m q) := (hb.block _ (Array.getElem?_eq_some_iff.1 HRX.out).1).trans HRX.out
    obtain ⟨x0, x1, x2⟩ := hX4.cells
    have HW4 := Lib.hid (next14 HW1.out hb)
    clear hb hX4 HRX HW1 HNU c0
    by_cases hn0 : 0 < n
    · have d1 : decide ((n : Int) > 0) = true := by simp; omega
      have d2 : decide (0 < n) = true := by simp; omega
      have HRE : Hid (rowsB15 (fun i => (U i).p) (k + 1) = bs ++ le n 8 ++ textB (tx14 rb)) := by show _ = _; rw [List.append_assoc]; exact HNX.out.trans (by rw [if_pos hn0])
      have hadd2 := HAD2.out
      clear HNX hn0
      go_wp2_with fail
      with_reducible refine (HPU.out _ HW4.out).mono ?_
      rintro e' w5 ⟨rfl, hb⟩
      have HW5 := Lib.hid (next14 HW4.out hb)
      clear hb HPU
      go_wp2_with fail
      with_reducible refine (HTE.out _).mono ?_
      rintro e' w6 ⟨rfl, hb⟩
      have HW6 := Lib.hid (next14 HW5.out hb)
      clear hb HTE
      go_wp2
      go_roundg (8 - (k + 1))
      case measure => omega
      case rel => exact ⟨k + 1, by omega, by omega, by go_num, by rw [HRE.out]; simp, HW6.out⟩
    · have d1 : decide ((n : Int) > 0) = false := by simp; omega
      have d2 : decide (0 < n) = false := by simp; omega
      have HRE : Hid (rowsB15 (fun i => (U i).p) (k + 1) = bs ++ le n 8) := by rw [HNX.out, if_neg hn0, List.append_nil]; exact rfl
      clear HNX hn0 HPU HTE HAD2
      go_wp2
      go_roundg (8 - (k + 1))
      case measure => omega
      case rel => exact ⟨k + 1, by omega, by omega, by go_num, by rw [HRE.out, HSC.out], HW4.out⟩

/-- One client asked: what each operation makes. -/
def YSa15 (B D Y i n e : Nat) (A A2 : Option Addr) (m q q2 : Nat) : Nat → Value → Prop
  | 0, v => v = .pointer (some ⟨B, 0, none⟩)
  | 1, v => v = .int .u8 i
  | 2, v => v = .int .u64 n
  | 3, v => v = .int .u8 i
  | 4, v => v = .pointer (some ⟨D, i * 3, none⟩)
  | 5, v => v = .pointer (some ⟨D, i * 3, none⟩)
  | 6, v => v = .int .u64 n
  | 7, v => v = .bool false
  | 8, v => v = .bool false
  | 9, v => v = .pointer (some ⟨Y, 0, none⟩)
  | 10, v => v = .int .i64 e
  | 11, v => v = .int .u8 i
  | 12, v => v = .pointer (some ⟨D, i * 3, none⟩)
  | 13, v => v = .pointer (some ⟨D, i * 3 + 1, none⟩)
  | 14, v => v = .pointer (some ⟨D, i * 3 + 1, none⟩)
  | 15, v => v = .int .i64 e
  | 16, v => v = .bool false
  | 17, v => v = .bool false
  | 18, v => v = .bool false
  | 19, v => v = .pointer (some ⟨Y, 1, none⟩)
  | 20, v => v = .slice A m q
  | 21, v => v = .int .u8 i
  | 22, v => v = .pointer (some ⟨D, i * 3, none⟩)
  | 23, v => v = .pointer (some ⟨D, i * 3 + 1, none⟩)
  | 24, v => v = .pointer (some ⟨D, i * 3 + 2, none⟩)
  | 25, v => v = .slice A2 m q2
  | 26, v => v = .bool true
  | 27, v => v = .bool false
  | 28, v => v = .bool false
  | _, _ => True
/-- The bytes of both. -/
def YSb15 (B : Nat) (U : Nat → R15) (s : ByteArray) : Nat → Value → Prop
  | 0, v => v = .pointer (some ⟨B, 0, none⟩)
  | 1, v => v = .string s
  | 2, v => v = .agg (tabA U)
  | 3, v => v = .string s
  | 4, v => v = .bool true
  | 5, v => v = .bool true
  | _, _ => True

set_option maxRecDepth 100000 in
set_option maxHeartbeats 4000000 in
theorem Same15_law {w : World} {P B : Nat} {T U : Nat → R15} (h : Own15 w P B T) (hU : ∀ i, i < 8 → RdS w (U i).A (U i).ss) (he : ∀ i, i < 8 → (T i).p = (U i).p) :
    Calls Try.prog 20 #[.pointer (some ⟨B, 0, none⟩), .agg (tabA U)] w (Says14 (.bool true) w) := by
  have hd1 : Tab15 (w.alloc (.cells (tabA U) 46)) w.heap.size 46 U := heap_alloc_new w _
  have HD1 := Lib.hid hd1
  have HB1 := Lib.hid (alloc14 (Below.refl _ w) (.cells (tabA U) 46))
  have hMU : ∀ i, i < 8 → MayP15 (U i).p := fun i hi => by rw [← he i hi]; exact (h.may i hi).p
  have HBY : Hid (∀ W, Below w.heap.size w W → Calls Try.prog 14 #[.pointer (some ⟨B, 0, none⟩)] W (Says14 (.string (tx14 (tabB15 (fun i => (U i).p)))) W)) := fun W hW => by
    have := bytes15_calls (h.later hW)
    rwa [show tabB15 (fun i => (T i).p) = tabB15 (fun i => (U i).p) from rowsB15_congr he] at this
  have HTX : Hid (∀ W, Below w.heap.size w W → Calls Try.prog 33 #[.agg (tabA U)] W (Says14 (.string (tx14 (tabB15 (fun i => (U i).p)))) W)) := fun W hW => rText15_calls (fun i hi => (hU i hi).later14 hW) hMU
  have HLA : Hid (∀ i : Nat, i < 8 → ∀ W, Below w.heap.size w W → Calls Try.prog 11 #[.pointer (some ⟨B, 0, none⟩), .int .u8 i] W (Says14 (.int .u64 (U i).n) W)) := fun i hi W hW => by
    have := Last15_calls B T i W (h.later hW).at_
    rwa [show getT T i = T i from if_pos hi, show (T i).n = (U i).n from congrArg P15.n (he i hi)] at this
  have HRE : Hid (∀ i : Nat, i < 8 → ∀ W, Below w.heap.size w W → Calls Try.prog 13 #[.pointer (some ⟨B, 0, none⟩), .int .u8 i] W fun e w' => ∃ A q, e = .returned (.agg #[.int .i64 (U i).e, .slice A (U i).ss.length q]) ∧ Txt15 w' A q (U i).ss ∧ Below W.heap.size W w') := fun i hi W hW => by
    have := Reply15_calls (h.later hW) i
    rwa [show getT T i = T i from if_pos hi, show (T i).e = (U i).e from congrArg P15.e (he i hi), show (T i).ss = (U i).ss from congrArg P15.ss (he i hi)] at this
  have HST : Hid (∀ i : Nat, i < 8 → ∀ A q W, Below w.heap.size w W → Txt15 W A q (U i).ss → Calls Try.prog 32 #[.slice A (U i).ss.length q, .slice (U i).A (U i).ss.length (U i).c] W (Says14 (.bool true) W)) := fun i hi A q W hW hA => by
    have hf : (U i).ss.length ≤ 10 := (hMU i hi).few
    have := samet14_calls A (U i).A q (U i).c (U i).ss (U i).ss W hA.rd ((hU i hi).later14 hW) (by omega)
    rwa [decide_eq_true rfl] at this
  clear h hU he hMU hd1
  generalize tx14 (tabB15 (fun i => (U i).p)) = sB at *
  go_enter Try.func20, Try.ntmps20
  go_wp2
  have hDl : w.heap.size < (w.alloc (.cells (tabA U) 46)).heap.size := by simp
  generalize w.alloc (.cells (tabA U) 46) = w1 at *
  generalize hDD : w.heap.size = D at *
  go_loopg [7] 8 (fun gg s7 wr => ∃ i : Nat, i ≤ 8 ∧ 8 - i ≤ gg ∧ s7 = .int .u8 i ∧ Hid (Below w1.heap.size w1 wr))
  case atStart => exact ⟨0, Nat.zero_le _, by omega, rfl, Below.refl _ _⟩
  case round =>
    obtain ⟨i, hi, hgi, rfl, H1⟩ := hrel
    generalize wr = wo at *
    have HWO : Hid (Below D w wo) := HB1.out.trans (H1.out.mono (by omega))
    have HDO := Lib.hid (HD1.out.later H1.out)
    by_cases hi8 : i < 8
    case neg =>
      have hi8z : ¬ (i : Int) < 8 := by omega
      obtain rfl : i = 8 := by omega
      have hss : (sB.toList == sB.toList) = true := by simp
      go_wp2
      refine wp_region_inv (by kernel_rfl) (fun W => Below wo.heap.size wo W) (fun j v _ => YSb15 B U sB j v) ?Fb ?hFb (by kernel_rfl) (by kernel_rfl) (drew14 (Below.refl _ _)) ?stepb ?finb
      case hFb =>
        intro x
        simp only [List.map_cons, List.map_nil, putL, Act.put, List.setIfInBounds_toArray, List.set_cons_zero, List.set_cons_succ, Nat.zero_add, Nat.reduceAdd]
        exact rfl
      case stepb =>
        refine ⟨?_, ?_, ?_, ?_, ?_, ?_, trivial⟩
        all_goals intro x W hW hdep K hK
        · clear hdep
          go_simp
          exact hK _ _ rfl hW (fun _ _ h => h)
        · have h0 : x 0 = _ := hdep 0 rfl
          clear hdep
          simp only [h0] at hK
          go_simp
          refine (HBY.out W (hDD ▸ (HWO.out.trans (hW.mono (by have := HWO.out.size; omega))))).mono ?_
          rintro e' W' ⟨rfl, hb⟩
          exact hK _ _ rfl (next14 hW hb) (fun _ _ h => h)
        · refine step_load15 rfl 46 (.tmp 3) rfl D rfl 46 U (HDO.out.later hW) _ Try.underlying46 sizeDoc15 ?_
          exact hK _ _ rfl hW (fun _ _ h => h)
        · have h2 : x 2 = _ := hdep 2 rfl
          clear hdep
          simp only [h2] at hK
          go_simp
          refine (HTX.out W (hDD ▸ (HWO.out.trans (hW.mono (by have := HWO.out.size; omega))))).mono ?_
          rintro e' W' ⟨rfl, hb⟩
          exact hK _ _ rfl (next14 hW hb) (fun _ _ h => h)
        · have h1 : x 1 = _ := hdep 1 rfl
          have h3 : x 3 = _ := hdep 3 rfl
          clear hdep
          simp only [h1, h3] at hK
          go_simp
          exact hK _ _ rfl hW (fun _ _ h => h)
        · have h4 : x 4 = _ := hdep 4 rfl
          clear hdep
          simp only [h4] at hK
          go_simp
          exact hK _ _ rfl hW (fun _ _ h => h)
      case finb =>
        intro x W hW hY
        have h5 : x 5 = .bool true := hY 5 (by decide)
        have HWW : Hid (Below D w W) := HWO.out.trans (hW.mono (by have := HWO.out.size; omega))
        clear hY hW
        rw [h5]
        go_wp2
        go_ret
        exact ⟨rfl, by rw [hDD]; exact HWW.out⟩
    have hi8z : (i : Int) < 8 := by omega
    have HLI := Lib.hid (HLA.out i hi8)
    have HRI := Lib.hid (HRE.out i hi8)
    have HSI := Lib.hid (HST.out i hi8)
    have HDC : Hid (∀ W, Below wo.heap.size wo W → W.cell? ⟨D, i * 3, none⟩ = some (.int .u64 (U i).n) ∧ W.cell? ⟨D, i * 3 + 1, none⟩ = some (.int .i64 (U i).e) ∧ W.cell? ⟨D, i * 3 + 2, none⟩ = some (.slice (U i).A (U i).ss.length (U i).c)) := fun W hW =>
      ⟨(HDO.out.later hW).cell i 0 hi8 (by decide), (HDO.out.later hW).cell i 1 hi8 (by decide), (HDO.out.later hW).cell i 2 hi8 (by decide)⟩
    clear HLA HRE HST HBY HTX HDO
    generalize (U i).n = n at *
    generalize (U i).e = e at *
    generalize (U i).A = A2 at *
    generalize (U i).c = q2 at *
    generalize (U i).ss = ss at *
    generalize ss.length = m at *
    have e1 : ((n : Int) != n) = false := by simp
    have e2 : (n != n) = false := by simp
    have e3 : ((e : Int) != e) = false := by simp
    have e4 : (e != e) = false := by simp
    go_wp2_with fail
    with_reducible refine (HRI.out _ (hDD ▸ HWO.out)).mono ?_
    rintro e' w4 ⟨A, q, rfl, ht, hb⟩
    have hY : RpAt (w4.alloc (.cells #[.int .i64 e, .slice A m q] 34)) w4.heap.size e (.slice A m q) := heap_alloc_new w4 _
    have hb5 := alloc14 hb (.cells #[.int .i64 e, .slice A m q] 34)
    have HYY := Lib.hid hY
    have HT5 := Lib.hid (ht.later (alloc14 (Below.refl _ w4) (.cells #[.int .i64 e, .slice A m q] 34)))
    have HB5 := Lib.hid hb5
    clear ht hb hY hb5 HRI
    go_wp2
    generalize w4.alloc (.cells #[.int .i64 e, .slice A m q] 34) = w5 at *
    generalize w4.heap.size = Y at *
    have HW5 : Hid (Below D w w5) := HWO.out.trans (HB5.out.mono (by have := HWO.out.size; omega))
    refine wp_region_inv (by kernel_rfl) (fun W => Below w5.heap.size w5 W) (fun j v _ => YSa15 B D Y i n e A A2 m q q2 j v) ?Fa ?hFa (by kernel_rfl) (by kernel_rfl) (drew14 (Below.refl _ _)) ?stepa ?fina
    case hFa =>
      intro x
      simp only [List.map_cons, List.map_nil, putL, Act.put, List.setIfInBounds_toArray, List.set_cons_zero, List.set_cons_succ, Nat.zero_add, Nat.reduceAdd]
      exact rfl
    case stepa =>
      refine ⟨?_, ?_, ?_, ?_, ?_, ?_, ?_, ?_, ?_, ?_, ?_, ?_, ?_, ?_, ?_, ?_, ?_, ?_, ?_, ?_, ?_, ?_, ?_, ?_, ?_, ?_, ?_, ?_, ?_, trivial⟩
      all_goals intro x W hW hdep K hK
      · clear hdep
        go_simp
        exact hK _ _ rfl hW (fun _ _ h => h)
      · clear hdep
        go_simp
        exact hK _ _ rfl hW (fun _ _ h => h)
      · have h0 : x 0 = _ := hdep 0 rfl
        have h1 : x 1 = _ := hdep 1 rfl
        clear hdep
        simp only [h0, h1] at hK
        go_simp
        refine (HLI.out W (hDD ▸ (HW5.out.trans (hW.mono (by have := HW5.out.size; omega))))).mono ?_
        rintro e' W' ⟨rfl, hb⟩
        exact hK _ _ rfl (next14 hW hb) (fun _ _ h => h)
      · clear hdep
        go_simp
        exact hK _ _ rfl hW (fun _ _ h => h)
      · have h3 : x 3 = _ := hdep 3 rfl
        clear hdep
        simp only [h3] at hK
        go_simp
        exact hK _ _ rfl hW (fun _ _ h => h)
      · have h4 : x 4 = _ := hdep 4 rfl
        clear hdep
        simp only [h4] at hK
        go_simp
        exact hK _ _ rfl hW (fun _ _ h => h)
      · have h5 : x 5 = _ := hdep 5 rfl
        obtain ⟨t0, t1, t2⟩ := HDC.out W (next14 HB5.out hW)
        clear hdep
        simp only [h5] at hK
        go_simp
        exact hK _ _ rfl hW (fun _ _ h => h)
      · have h2 : x 2 = _ := hdep 2 rfl
        have h6 : x 6 = _ := hdep 6 rfl
        clear hdep
        simp only [h2, h6] at hK
        go_simp
        exact hK _ _ rfl hW (fun _ _ h => h)
      · have h7 : x 7 = _ := hdep 7 rfl
        clear hdep
        simp only [h7] at hK
        go_simp
        exact hK _ _ rfl hW (fun _ _ h => h)
      · have h8 : x 8 = _ := hdep 8 rfl
        clear hdep
        simp only [h8] at hK
        go_simp
        exact hK _ _ rfl hW (fun _ _ h => h)
      · have h8 : x 8 = _ := hdep 8 rfl
        have h9 : x 9 = _ := hdep 9 rfl
        have y0 := (HYY.out.below hW).c0
        clear hdep
        simp only [h8, h9] at hK
        go_simp
        exact hK _ _ rfl hW (fun _ _ h => h)
      · have h8 : x 8 = _ := hdep 8 rfl
        clear hdep
        simp only [h8] at hK
        go_simp
        exact hK _ _ rfl hW (fun _ _ h => h)
      · have h8 : x 8 = _ := hdep 8 rfl
        have h11 : x 11 = _ := hdep 11 rfl
        clear hdep
        simp only [h8, h11] at hK
        go_simp
        exact hK _ _ rfl hW (fun _ _ h => h)
      · have h8 : x 8 = _ := hdep 8 rfl
        have h12 : x 12 = _ := hdep 12 rfl
        clear hdep
        simp only [h8, h12] at hK
        go_simp
        exact hK _ _ rfl hW (fun _ _ h => h)
      · have h8 : x 8 = _ := hdep 8 rfl
        have h13 : x 13 = _ := hdep 13 rfl
        clear hdep
        simp only [h8, h13] at hK
        go_simp
        exact hK _ _ rfl hW (fun _ _ h => h)
      · have h8 : x 8 = _ := hdep 8 rfl
        have h14 : x 14 = _ := hdep 14 rfl
        obtain ⟨t0, t1, t2⟩ := HDC.out W (next14 HB5.out hW)
        clear hdep
        simp only [h8, h14] at hK
        go_simp
        exact hK _ _ rfl hW (fun _ _ h => h)
      · have h8 : x 8 = _ := hdep 8 rfl
        have h10 : x 10 = _ := hdep 10 rfl
        have h15 : x 15 = _ := hdep 15 rfl
        clear hdep
        simp only [h8, h10, h15] at hK
        go_simp
        exact hK _ _ rfl hW (fun _ _ h => h)
      · have h8 : x 8 = _ := hdep 8 rfl
        have h16 : x 16 = _ := hdep 16 rfl
        clear hdep
        simp only [h8, h16] at hK
        go_simp
        exact hK _ _ rfl hW (fun _ _ h => h)
      · have h17 : x 17 = _ := hdep 17 rfl
        clear hdep
        simp only [h17] at hK
        go_simp
        exact hK _ _ rfl hW (fun _ _ h => h)
      · have h18 : x 18 = _ := hdep 18 rfl
        clear hdep
        simp only [h18] at hK
        go_simp
        exact hK _ _ rfl hW (fun _ _ h => h)
      · have h18 : x 18 = _ := hdep 18 rfl
        have h19 : x 19 = _ := hdep 19 rfl
        have y1 := (HYY.out.below hW).c1
        clear hdep
        simp only [h18, h19] at hK
        go_simp
        exact hK _ _ rfl hW (fun _ _ h => h)
      · have h18 : x 18 = _ := hdep 18 rfl
        clear hdep
        simp only [h18] at hK
        go_simp
        exact hK _ _ rfl hW (fun _ _ h => h)
      · have h18 : x 18 = _ := hdep 18 rfl
        have h21 : x 21 = _ := hdep 21 rfl
        clear hdep
        simp only [h18, h21] at hK
        go_simp
        exact hK _ _ rfl hW (fun _ _ h => h)
      · have h18 : x 18 = _ := hdep 18 rfl
        have h22 : x 22 = _ := hdep 22 rfl
        clear hdep
        simp only [h18, h22] at hK
        go_simp
        exact hK _ _ rfl hW (fun _ _ h => h)
      · have h18 : x 18 = _ := hdep 18 rfl
        have h23 : x 23 = _ := hdep 23 rfl
        clear hdep
        simp only [h18, h23] at hK
        go_simp
        exact hK _ _ rfl hW (fun _ _ h => h)
      · have h18 : x 18 = _ := hdep 18 rfl
        have h24 : x 24 = _ := hdep 24 rfl
        obtain ⟨t0, t1, t2⟩ := HDC.out W (next14 HB5.out hW)
        clear hdep
        simp only [h18, h24] at hK
        go_simp
        exact hK _ _ rfl hW (fun _ _ h => h)
      · have h18 : x 18 = _ := hdep 18 rfl
        have h20 : x 20 = _ := hdep 20 rfl
        have h25 : x 25 = _ := hdep 25 rfl
        clear hdep
        simp only [h18, h20, h25] at hK
        go_simp
        refine (HSI.out A q W (hDD ▸ (HW5.out.trans (hW.mono (by have := HW5.out.size; omega)))) (HT5.out.later hW)).mono ?_
        rintro e' W' ⟨rfl, hb⟩
        exact hK _ _ rfl (next14 hW hb) (fun _ _ h => h)
      · have h18 : x 18 = _ := hdep 18 rfl
        have h26 : x 26 = _ := hdep 26 rfl
        clear hdep
        simp only [h18, h26] at hK
        go_simp
        exact hK _ _ rfl hW (fun _ _ h => h)
      · have h18 : x 18 = _ := hdep 18 rfl
        have h27 : x 27 = _ := hdep 27 rfl
        clear hdep
        simp only [h18, h27] at hK
        go_simp
        exact hK _ _ rfl hW (fun _ _ h => h)
    case fina =>
      intro x W hW hY
      have h28 : x 28 = .bool false := hY 28 (by decide)
      have HWW : Hid (Below w1.heap.size w1 W) := next14 H1.out (next14 HB5.out hW)
      clear hY hW
      rw [h28]
      go_wp2
      go_roundg (8 - (i + 1))
      case measure => omega
      case rel => exact ⟨i + 1, by omega, by omega, by go_num, HWW.out⟩
end Go.Proofs.Ytadecmjojnhlnaa
