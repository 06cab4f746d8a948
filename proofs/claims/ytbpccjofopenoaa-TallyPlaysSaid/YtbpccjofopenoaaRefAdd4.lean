/-
  The document's own row of sixteen numbers: what Add tells; nothing that was there turns.
  Conditions: none.
-/
import Derived.Test.YtbpccjofopenoaaRef4
import Derived.Test.YtbpccjofopenoaaGen
namespace Go.Proofs.Ytbpccjofopenoaa
open Go.RowKit

/-- A whole row is loaded, in a region that draws its order. -/
theorem step_load_num {P : Program} {ops : Array Oper} {o : Oper} {a : Act} {w : World} {K : Act → World → Prop} {Q : Exit → Act → World → Prop} {E : Prop} (hw : Region.wanted o (yielded ops a.tmps) = true) (ty : TypeId) (x : Operand) (ho : o.op = .load ty x)
    (B : Nat) (hx : a.eval x = .pointer (some ⟨B, 0, none⟩)) (f : Nat → Int) (hn : Num16 w B f) (e : TypeId) (hu : P.underlying ty = some (.array 16 e)) (hi : (P.info? ty).map (·.size) = some 16)
    (h : K (a.put o.dst (.agg (numA f))) w) : if Region.wanted o (yielded ops a.tmps) = true then Oper.wp P o a w K Q else E := by
  rw [if_pos hw]
  obtain ⟨t, hn⟩ := hn
  exact wp_load_row ty x ho B hx t (numA f) (0, 0) _ hn hu rfl (by rw [numA_size]; exact hi) h
theorem wp_load_num {P : Program} {o : Oper} {a : Act} {w : World} {K : Act → World → Prop} {Q : Exit → Act → World → Prop} (ty : TypeId) (x : Operand) (ho : o.op = .load ty x)
    (B : Nat) (hx : a.eval x = .pointer (some ⟨B, 0, none⟩)) (f : Nat → Int) (hn : Num16 w B f) (e : TypeId) (hu : P.underlying ty = some (.array 16 e)) (hi : (P.info? ty).map (·.size) = some 16)
    (h : K (a.put o.dst (.agg (numA f))) w) : Oper.wp P o a w K Q := by
  obtain ⟨t, hn⟩ := hn
  exact wp_load_row ty x ho B hx t (numA f) (0, 0) _ hn hu rfl (by rw [numA_size]; exact hi) h
/-- A whole row is stored, in a region that draws its order. -/
theorem step_store_num {P : Program} {ops : Array Oper} {o : Oper} {a : Act} {w : World} {K : Act → World → Prop} {Q : Exit → Act → World → Prop} {E : Prop} (hw : Region.wanted o (yielded ops a.tmps) = true) (ty : TypeId) (x y : Operand) (ho : o.op = .store ty x y)
    (B : Nat) (hx : a.eval x = .pointer (some ⟨B, 0, none⟩)) (g : Nat → Int) (hy : a.eval y = .agg (numA g)) (f : Nat → Int) (hn : Num16 w B f) (hi : (P.info? ty).map (·.size) = some 16)
    (h : K (a.put o.dst undef) (w.setRow B (numA g))) : if Region.wanted o (yielded ops a.tmps) = true then Oper.wp P o a w K Q else E := by
  rw [if_pos hw]
  obtain ⟨t, hn⟩ := hn
  exact wp_store_row ty x y ho B (numA g) hx hy t (numA f) hn (by rw [numA_size]; exact hi) (by rw [numA_size, numA_size]) (numA_one g) h

/-- What each operation of the last statement makes. -/
def YAdd (g : Nat → Int) (b0 k : Nat) : Nat → Value → World → Prop
  | 0, v, _ => v = .agg (numA g)
  | 1, v, _ => v = .int .i64 (k : Int)
  | 2, v, _ => v = .pointer (some ⟨b0, k, none⟩)
  | 3, v, _ => v = .int .i64 (g k)
  | 4, _, _ => True
  | _, v, _ => v = .int .i64 (g k)
theorem YAdd_keep {g : Nat → Int} {b0 k : Nat} {W W' : World} (j : Nat) (u : Value) (h : YAdd g b0 k j u W) : YAdd g b0 k j u W' := by
  match j, h with
  | 0, h => exact h
  | 1, h => exact h
  | 2, h => exact h
  | 3, h => exact h
  | 4, h => exact h
  | _ + 5, h => exact h
/-- What is known of the worlds of the last statement. -/
structure GAdd (w : World) (g : Nat → Int) (b0 b1 : Nat) (L : Nat → Bool) (W : World) : Prop where
  src : Num16 W b0 g
  dst : Num16 W b1 (if L 4 then g else fun _ => 0)
  turns : Turns (fun _ => False) w W

theorem GAdd.same {w : World} {g : Nat → Int} {b0 b1 : Nat} {L : Nat → Bool} {W : World} (h : GAdd w g b0 b1 L W) (i : Nat) (hi : 4 ≠ i) : GAdd w g b0 b1 (updL L i) W := by
  refine ⟨h.src, ?_, h.turns⟩
  rw [show updL L i 4 = L 4 from if_neg hi]
  exact h.dst
theorem GAdd.store {w : World} {g : Nat → Int} {b0 b1 : Nat} {L : Nat → Bool} {W : World} (h : GAdd w g b0 b1 L W) (hb : b0 ≠ b1) (hw : w.heap.size ≤ b1) : GAdd w g b0 b1 (updL L 4) (W.setRow b1 (numA g)) := by
  refine ⟨?_, ?_, h.turns.setRow (fun hl => by omega) _⟩
  · exact h.src.turns ((Turns.refl (fun i => i = b1) W).setRow (fun _ => rfl) _) hb
  · rw [show updL L 4 4 = true from if_pos rfl, if_pos rfl]
    exact h.dst.setRow g

set_option maxRecDepth 100000 in
set_option maxHeartbeats 1000000 in
theorem refadd4_calls (f : Nat → Int) (kind y : Int) (w : World) : Calls Try.prog 7 #[.agg (numA f), .int .i64 kind, .int .i64 y] w (TellsRow (addF f kind y) (.int .i64 (addN f kind y)) w) := by
  have hz := zeroRow_run
  obtain ⟨b0, b1, bt⟩ := boxes16 w f (fun _ => 0) 33 33
  have hsz := numA_size
  have HB0 := Lib.hid b0
  have HB1 := Lib.hid b1
  have HBT := Lib.hid bt
  clear b0 b1 bt
  go_enter Try.func7, Try.ntmps7
  go_upto_region 1 with fail
  generalize (w.alloc (.cells (numA f) 33)).alloc (.cells (numA fun _ => 0) 33) = W at *
  have hW : w.heap.size + 1 < W.heap.size := HB1.out.lt
  clear hz
  rcases inK_cases kind with ⟨k, hk, rfl, hin⟩ | ⟨hin, ho⟩
  · have e1 : addF f (k : Int) y = setF f k (wrap64 (f k + y)) := by simp [addF, toF, hin]
    have e2 : addN f (k : Int) y = wrap64 (f k + y) := by simp [addN, hin]
    have HE1 := Lib.hid e1
    have HE2 := Lib.hid e2
    clear e1 e2 hin
    have hc := HB0.out.cell k hk
    have hf := HB0.out.free k
    obtain ⟨s, hs⟩ : ∃ s, wrap64 (f k + y) = s := ⟨_, rfl⟩
    have HS := Lib.hid hs
    have ht2 : Turns (fun i => i = w.heap.size) W (W.setCell ⟨w.heap.size, k, none⟩ (.int .i64 s)) := (Turns.refl (fun i => i = w.heap.size) _).setCell (p := ⟨w.heap.size, k, none⟩) (fun _ => rfl) _
    have HG : Hid (GAdd w (setF f k s) w.heap.size (w.heap.size + 1) (fun _ => false) (W.setCell ⟨w.heap.size, k, none⟩ (.int .i64 s)).drew) := by
      refine ⟨(HB0.out.set k s).drew, ?_, (HBT.out.next ht2 (fun i hi e => by omega)).drew⟩
      rw [if_neg (by simp)]
      exact (HB1.out.turns ht2 (by omega)).drew
    have HGK : Hid (setF f k s k = s) := setF_same f k s
    clear ht2 HB0 HB1 HBT
    go_upto_region 4 with fail
    clear hs hc hf
    generalize W.setCell ⟨w.heap.size, k, none⟩ (.int .i64 s) = W2 at *
    refine wp_region_st2 (by kernel_rfl) (YAdd (setF f k s) w.heap.size k) (GAdd w (setF f k s) w.heap.size (w.heap.size + 1)) ?F ?hF (by kernel_rfl) (by kernel_rfl) HG.out ?step ?fin
    case hF =>
      intro x
      simp only [List.map_cons, List.map_nil, putL, Act.put, List.setIfInBounds_toArray, List.set_cons_zero, List.set_cons_succ, Nat.zero_add, Nat.reduceAdd]
      exact rfl
    case step =>
      refine ⟨?_, ?_, ?_, ?_, ?_, ?_, trivial⟩
      all_goals intro L x W hL hdep hG hY K hK
      · refine step_load_num rfl 33 (.tmp 3) rfl w.heap.size rfl _ hG.src _ Try.underlying33 sizeRow ?_
        exact hK _ _ rfl (hG.same 0 (by omega)) (fun j _ h => YAdd_keep j _ h)
      · clear hY hdep
        have HGG := Lib.hid hG
        clear hG
        go_simp
        exact hK _ _ rfl (HGG.out.same 1 (by omega)) (fun j _ h => YAdd_keep j _ h)
      · have h1 : x 1 = _ := hY 1 rfl
        have HGG := Lib.hid hG
        clear hY hdep hG
        have hkI : (k : Int) < 16 := by omega
        simp only [h1] at hK
        go_simp
        exact hK _ _ rfl (HGG.out.same 2 (by omega)) (fun j _ h => YAdd_keep j _ h)
      · have h2 : x 2 = _ := hY 2 rfl
        have hc := hG.src.cell k hk
        have HGG := Lib.hid hG
        clear hY hdep hG
        simp only [h2] at hK
        go_simp
        exact hK _ _ rfl (HGG.out.same 3 (by omega)) (fun j _ h => YAdd_keep j _ h)
      · have h0 : x 0 = _ := hY 0 rfl
        refine step_store_num rfl 33 (.tmp 6) (.tmp 22) rfl (w.heap.size + 1) rfl (setF f k s) h0 _ hG.dst sizeRow ?_
        exact hK _ _ trivial (hG.store (by omega) (by omega)) (fun j _ h => YAdd_keep j _ h)
      · have h3 : x 3 = _ := hY 3 rfl
        have HGG := Lib.hid hG
        clear hY hdep hG
        simp only [h3] at hK
        go_simp
        exact hK _ _ rfl (HGG.out.same 5 (by omega)) (fun j _ h => YAdd_keep j _ h)
    case fin =>
      intro L x W hL hG hY
      have h5 : x 5 = _ := hY 5 (by simp)
      have hd := hG.dst
      rw [hL 4 (by simp), if_pos rfl] at hd
      have HD := Lib.hid hd
      have HT := Lib.hid hG.turns
      have h6 : x 5 = .int .i64 s := by rw [h5, HGK.out]
      have HX := Lib.hid h6
      clear hG hY hL hd h5 h6 HG HGK
      go_wp2
      exact bodyPost_ret (v := .tuple #[.agg (numA (setF f k s)), .int .i64 s]) (results_num Try.results7 _ _ _ (w.heap.size + 1) (setF f k s) _ rfl HX.out HD.out Try.underlying33 sizeRow) rfl ⟨by rw [HE1.out, HE2.out, HS.out], HT.out⟩
  · have e1 : addF f kind y = f := toF_out f hin _ _
    have e2 : addN f kind y = 0 := by simp [addN, hin]
    have HE1 := Lib.hid e1
    have HE2 := Lib.hid e2
    have hst := HB1.out.store_run Try.prog f
    have HN3 := Lib.hid (HB1.out.setRow f)
    have HT2 := Lib.hid (HBT.out.setRow (g := w.heap.size + 1) (fun h => by omega) (numA f))
    obtain ⟨t2, hh2⟩ := HB0.out
    have HH2 := Lib.hid hh2
    clear hh2 hin e1 e2 HB0 HB1 HBT
    rcases ho with h1 | ⟨h0, h1⟩
    all_goals
      go_wp2_with (with_reducible refine wpList_load_row rfl 33 (.tmp 3) rfl w.heap.size rfl t2 (numA f) (0, 0) _ HH2.out Try.underlying33 rfl (by rw [numA_size]; exact sizeRow) ?_)
      exact bodyPost_ret (v := .tuple #[.agg (numA f), .int .i64 0]) (results_num Try.results7 _ _ _ (w.heap.size + 1) f _ rfl rfl HN3.out Try.underlying33 sizeRow) rfl ⟨by rw [HE1.out, HE2.out], HT2.out⟩
end Go.Proofs.Ytbpccjofopenoaa
