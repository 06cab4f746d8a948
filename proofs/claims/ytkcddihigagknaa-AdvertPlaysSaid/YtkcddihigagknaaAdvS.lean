/-
  The law's Same: a board that has what the document's has.
  Conditions: they have the same.
-/
import Derived.Test.YtkcddihigagknaaAdvD
import Derived.Test.YtkcddihigagknaaInv
namespace Go.Proofs.Ytkcddihigagknaa
open Go.RowKit

theorem step_load16 {P : Program} {ops : Array Oper} {o : Oper} {a : Act} {w : World} {K : Act → World → Prop} {Q : Exit → Act → World → Prop} {E : Prop} (hw : Region.wanted o (yielded ops a.tmps) = true) (ty : TypeId) (x : Operand) (ho : o.op = .load ty x)
    (B : Nat) (hx : a.eval x = .pointer (some ⟨B, 0, none⟩)) (t : TypeId) (cs : Array Value) (d : TypeDesc) (hn : w.heap[B]? = some (.cells cs t (0, 0))) (hu : P.underlying ty = some d) (hd : (match d with | .struct _ | .array _ _ => true | _ => false) = true) (hi : (P.info? ty).map (·.size) = some cs.size)
    (h : K (a.put o.dst (.agg cs)) w) : if Region.wanted o (yielded ops a.tmps) = true then Oper.wp P o a w K Q else E := by
  rw [if_pos hw]
  exact wp_load_row ty x ho B hx t cs (0, 0) _ hn hu hd hi h
/-- What each operation makes. -/
def YSa16 (B D n : Nat) (L : List UInt8) (s : ByteArray) : Nat → Value → Prop
  | 0, v => v = .pointer (some ⟨B, 0, none⟩)
  | 1, v => v = .int .i64 n
  | 2, v => v = .pointer (some ⟨D, 0, none⟩)
  | 3, v => v = .int .i64 n
  | 4, v => v = .bool false
  | 5, v => v = .bool false
  | 6, v => v = .pointer (some ⟨B, 0, none⟩)
  | 7, v => v = .string s
  | 8, v => v = .agg (docA L)
  | 9, v => v = .string s
  | 10, v => v = .bool false
  | 11, v => v = .bool false
  | _, _ => True

set_option maxRecDepth 100000 in
set_option maxHeartbeats 8000000 in
theorem Same16_calls {w : World} {B A c : Nat} {L : List UInt8} (h : Bd16 w B A c L) : Calls Try.prog 17 #[.pointer (some ⟨B, 0, none⟩), .agg (docA L)] w (Says14 (.bool true) w) := by
  have hlen := h.good.len
  have HG := Lib.hid h.good
  have hb1 := alloc14 (Below.refl _ w) (.cells (docA L) 29)
  have hd1 : Doc16 (w.alloc (.cells (docA L) 29)) w.heap.size L := heap_alloc_new w _
  have HBD := Lib.hid (h.later hb1)
  have HD1 := Lib.hid hd1
  have HB1 := Lib.hid hb1
  clear h hb1 hd1
  obtain ⟨n, hn⟩ : ∃ n, n = L.length := ⟨_, rfl⟩
  rw [← hn] at hlen
  have HN := Lib.hid hn
  clear hn
  obtain ⟨s, hs⟩ : ∃ s, s = tx14 (boardB L) := ⟨_, rfl⟩
  have hnn : ((n : Int) != n) = false := by simp
  have HNO : Hid (∀ W, Bd16 W B A c L → Calls Try.prog 21 #[.pointer (some ⟨B, 0, none⟩)] W fun e w' => e = .returned (.int .i64 (n : Nat)) ∧ W = w') := fun W hW => by
    have := Nodes16_calls hW
    rwa [← HN.out] at this
  have HBY : Hid (∀ W, Bd16 W B A c L → Calls Try.prog 12 #[.pointer (some ⟨B, 0, none⟩)] W (Says14 (.string s) W)) := fun W hW => by
    rw [hs]
    exact bytes16_calls hW
  have HTX : Hid (∀ W, Calls Try.prog 33 #[.agg (docA L)] W (Says14 (.string s) W)) := fun W => by
    rw [hs]
    exact rText16_calls L HG.out W
  clear hs
  go_enter Try.func17, Try.ntmps17
  go_wp2
  generalize w.alloc (.cells (docA L) 29) = w1 at *
  generalize hD : w.heap.size = D at *
  have HB1' : Hid (Below w.heap.size w w1) := by rw [hD]; exact HB1.out
  clear HB1
  refine wp_region_inv (by kernel_rfl) (fun W => Below w1.heap.size w1 W) (fun j v _ => YSa16 B D n L s j v) ?F1 ?hF1 (by kernel_rfl) (by kernel_rfl) (drew14 (Below.refl _ _)) ?step1 ?fin1
  case hF1 =>
    intro x
    simp only [List.map_cons, List.map_nil, putL, Act.put, List.setIfInBounds_toArray, List.set_cons_zero, List.set_cons_succ, Nat.zero_add, Nat.reduceAdd]
    exact rfl
  case step1 =>
    refine ⟨?_, ?_, ?_, ?_, ?_, ?_, ?_, ?_, ?_, ?_, ?_, ?_, trivial⟩
    all_goals intro z W hW hdep K hK
    · clear hdep
      go_simp
      exact hK _ _ rfl hW (fun _ _ h => h)
    · have h0 : z 0 = _ := hdep 0 rfl
      clear hdep
      simp only [h0] at hK
      go_simp
      refine (HNO.out W (HBD.out.later hW)).mono ?_
      rintro e W' ⟨rfl, rfl⟩
      exact hK _ _ rfl hW (fun _ _ h => h)
    · clear hdep
      go_simp
      exact hK _ _ rfl hW (fun _ _ h => h)
    · have h2 : z 2 = _ := hdep 2 rfl
      have hc := (HD1.out.later hW).c0
      rw [← HN.out] at hc
      clear hdep
      simp only [h2] at hK
      go_simp
      exact hK _ _ rfl hW (fun _ _ h => h)
    · have h1 : z 1 = _ := hdep 1 rfl
      have h3 : z 3 = _ := hdep 3 rfl
      clear hdep
      simp only [h1, h3] at hK
      go_simp
      exact hK _ _ rfl hW (fun _ _ h => h)
    · have h4 : z 4 = _ := hdep 4 rfl
      clear hdep
      simp only [h4] at hK
      go_simp
      exact hK _ _ rfl hW (fun _ _ h => h)
    · have h5 : z 5 = _ := hdep 5 rfl
      clear hdep
      simp only [h5] at hK
      go_simp
      exact hK _ _ rfl hW (fun _ _ h => h)
    · have h5 : z 5 = _ := hdep 5 rfl
      have h6 : z 6 = _ := hdep 6 rfl
      clear hdep
      simp only [h5, h6] at hK
      go_simp
      refine (HBY.out W (HBD.out.later hW)).mono ?_
      rintro e W' ⟨rfl, hb⟩
      exact hK _ _ rfl (next14 hW hb) (fun _ _ h => h)
    · have h5 : z 5 = _ := hdep 5 rfl
      have hd := HD1.out.later hW
      unfold Doc16 at hd
      clear hdep
      refine step_load16 (by simp only [h5]; rfl) 29 (.tmp 3) rfl D rfl 29 (docA L) _ hd Try.underlying29 rfl (sizeDoc16A L) ?_
      exact hK _ _ rfl hW (fun _ _ h => h)
    · have h5 : z 5 = _ := hdep 5 rfl
      have h8 : z 8 = _ := hdep 8 rfl
      clear hdep
      simp only [h5, h8] at hK
      go_simp
      refine (HTX.out W).mono ?_
      rintro e W' ⟨rfl, hb⟩
      exact hK _ _ rfl (next14 hW hb) (fun _ _ h => h)
    · have h5 : z 5 = _ := hdep 5 rfl
      have h7 : z 7 = _ := hdep 7 rfl
      have h9 : z 9 = _ := hdep 9 rfl
      clear hdep
      simp only [h5, h7, h9] at hK
      go_simp
      exact hK _ _ rfl hW (fun _ _ h => h)
    · have h5 : z 5 = _ := hdep 5 rfl
      have h10 : z 10 = _ := hdep 10 rfl
      clear hdep
      simp only [h5, h10] at hK
      go_simp
      exact hK _ _ rfl hW (fun _ _ h => h)
  case fin1 =>
    intro z W hW hY
    have h11 : z 11 = .bool false := hY 11 (by decide)
    have HBD2 := Lib.hid (HBD.out.later hW)
    have HD2 := Lib.hid (HD1.out.later hW)
    have HB2 := Lib.hid (next14 HB1'.out hW)
    clear hY hW HBD HD1 HB1' HNO HBY HTX
    rw [h11]
    go_wp2
    go_loopg [19] 8 (fun gg s19 wr => ∃ i : Nat, i ≤ 8 ∧ 8 - i ≤ gg ∧ s19 = .int .u8 i ∧ Hid (W = wr))
    case atStart => exact ⟨0, Nat.zero_le _, by omega, rfl, rfl⟩
    case round =>
      obtain ⟨i, hi, hgi, rfl, HW⟩ := hrel
      generalize wr = wo at *
      by_cases hi8 : i < 8
      case neg =>
        obtain rfl : i = 8 := by omega
        have HB3 : Hid (Below w.heap.size w wo) := HW.out ▸ HB2.out
        go_wp2
        go_ret
        exact ⟨rfl, HB3.out⟩
      have hi8z : (i : Int) < 8 := by omega
      have hcv : wrap64 (i : Int) = i := IntWalk.wrap64_in _ (by omega)
      have hd : Doc16 wo D L := HW.out ▸ HD2.out
      have hbd : Bd16 wo B A c L := HW.out ▸ HBD2.out
      have hc0 := hd.c0
      rw [← HN.out] at hc0
      have HOF := Lib.hid (Of16_calls hbd i (by omega))
      by_cases hin : i < n
      · have d1 : decide ((i : Int) < n) = true := by simp; omega
        have d2 : decide (i < n) = true := by simp; omega
        have i1 : (0 : Int) ≤ i ∧ (i : Int) < 7 := by omega
        have ha := hd.at_ (i := i) (by omega)
        generalize of16 L i = x at *
        have hxx : ((x : Int) != x) = false := by simp
        clear hd hbd hin
        go_wp2_with fail
        with_reducible refine HOF.out.mono ?_
        rintro e w5 ⟨rfl, rfl⟩
        clear HOF
        go_wp2
        go_roundg (8 - (i + 1))
        case measure => omega
        case rel => exact ⟨i + 1, by omega, by omega, by go_num, HW.out⟩
      · have d1 : decide ((i : Int) < n) = false := by simp; omega
        have d2 : decide (i < n) = false := by simp; omega
        rw [of16_out (by rw [← HN.out]; omega)] at HOF
        clear hd hbd hin
        go_wp2_with fail
        with_reducible refine HOF.out.mono ?_
        rintro e w5 ⟨rfl, rfl⟩
        clear HOF
        go_wp2
        go_roundg (8 - (i + 1))
        case measure => omega
        case rel => exact ⟨i + 1, by omega, by omega, by go_num, HW.out⟩
end Go.Proofs.Ytkcddihigagknaa
