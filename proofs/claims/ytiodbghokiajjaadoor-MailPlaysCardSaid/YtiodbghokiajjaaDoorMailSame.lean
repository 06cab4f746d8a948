/-
  Two rows of the same pairs are told to be the same.
  Conditions: rows of at most 1000 pairs.
-/
import Derived.Test.YtiodbghokiajjaaDoorMailPairs
import Derived.Laws.StructEq
namespace Go.Proofs.YtiodbghokiajjaaDoor
open Go.RowKit Go.Maps

/-- v is a row of pairs that reads as L. -/
def Pv9 (w : World) (v : Value) (L : Row7) : Prop := ∃ (A : Option Addr) (c : Nat), v = .slice A L.length c ∧ ∀ k (h : k < L.length), ∃ g, A = some ⟨g, 0, none⟩ ∧ w.cell? ⟨g, k * 2, none⟩ = some (.string (tx7 L[k].1)) ∧ w.cell? ⟨g, k * 2 + 1, none⟩ = some (.string (tx7 L[k].2))
theorem Pv9.later {w w' : World} {v : Value} {L : Row7} (h : Pv9 w v L) (hb : Below w.heap.size w w') : Pv9 w' v L := by
  obtain ⟨A, c, e, hc⟩ := h
  refine ⟨A, c, e, fun k hk => ?_⟩
  obtain ⟨g, eg, h1, h2⟩ := hc k hk
  exact ⟨g, eg, (hb.cell (p := ⟨g, k * 2, none⟩) (World.block_lt_of_cell? w _ h1)).trans h1, (hb.cell (p := ⟨g, k * 2 + 1, none⟩) (World.block_lt_of_cell? w _ h2)).trans h2⟩
theorem Pv9.of_own {w : World} {b : Nat} {v : Value} {L : Row7} (h : Prs9 b w v L) : Pv9 w v L := by
  rcases h.2 with ⟨rfl, hz⟩ | ⟨g, cap, cur, rfl, hb, hg, r1, r2, r3, r4⟩
  · have : L = [] := List.eq_nil_of_length_eq_zero hz
    subst this
    exact ⟨none, 0, rfl, fun k hk => absurd hk (Nat.not_lt_zero _)⟩
  · refine ⟨_, cap, rfl, fun k hk => ⟨g, rfl, ?_, ?_⟩⟩
    · have h2 : (List.take (L.length * 2) cur.toList)[k * 2]? = some (.string (tx7 L[k].1)) := by rw [r4]; have := pr9_at L k 0 hk (by decide); simpa [pr9] using this
      rw [List.getElem?_take, if_pos (by omega)] at h2
      simpa [World.cell?, hg] using h2
    · have h2 : (List.take (L.length * 2) cur.toList)[k * 2 + 1]? = some (.string (tx7 L[k].2)) := by rw [r4]; have := pr9_at L k 1 hk (by decide); simpa [pr9] using this
      rw [List.getElem?_take, if_pos (by omega)] at h2
      simpa [World.cell?, hg] using h2

theorem neq9 (s h : ByteArray) (w : World) : (binOp .neq 49 (.agg #[.string s, .string h]) (.agg #[.string s, .string h])).run Tryd.prog w = .ok (.bool false) w := by
  have ht : Tryd.prog.underlying 49 = some (.struct (Tryd.prog.fieldsOf 49)) := by kernel_rfl
  have hp : Tryd.prog.stoodInHeld 49 = false := by kernel_rfl
  have hf : (Tryd.prog.fieldsOf 49).toList.map (fun f => (f.name, f.type, f.offset)) = [("Name", 9, 0), ("Mail", 9, 1)] := by kernel_rfl
  have hu := Tryd.underlying9
  rw [run_neq_struct, run_equalIn_agg w 9999 49 _ _ ht hp]
  generalize (Tryd.prog.fieldsOf 49).toList = fs at hf
  obtain ⟨f1, fs1, rfl, e1, h2⟩ := List.map_eq_cons_iff.1 hf
  obtain ⟨f2, fs2, rfl, e2, h3⟩ := List.map_eq_cons_iff.1 h2
  obtain rfl := List.map_eq_nil_iff.1 h3
  simp only [Prod.mk.injEq] at e1 e2
  obtain ⟨a1, a2, a3⟩ := e1
  obtain ⟨b1, b2, b3⟩ := e2
  have he := fun x => run_equalIn_string (P := Tryd.prog) w 9998 9 x x hu
  have hne1 : ¬ ("Name" = "_") := by decide
  have hne2 : ¬ ("Mail" = "_") := by decide
  simp only [Nat.reduceAdd] at he
  simp [Op.eqFields, a1, a2, a3, b1, b2, b3, part, isAgg, run_underlying hu, he, Result.andThen, hne1, hne2]

def YSam9 (g1 g2 n k c1 c2 : Nat) (s h : ByteArray) : Nat → Value → World → Prop
  | 0, v, _ => v = .slice (some ⟨g1, 0, none⟩) n c1
  | 2, v, _ => v = .pointer (some ⟨g1, k * 2, none⟩)
  | 3, v, _ => v = .agg #[.string s, .string h]
  | 4, v, _ => v = .slice (some ⟨g2, 0, none⟩) n c2
  | 6, v, _ => v = .pointer (some ⟨g2, k * 2, none⟩)
  | 7, v, _ => v = .agg #[.string s, .string h]
  | 8, v, _ => v = .bool false
  | _, v, _ => v = .int .i64 k

set_option maxRecDepth 100000 in
set_option maxHeartbeats 2000000 in
theorem same9_calls (v1 v2 : Value) (L : Row7) (w : World) (h1 : Pv9 w v1 L) (h2 : Pv9 w v2 L) (h12 : L.length ≤ 1000) : Calls Tryd.prog 21 #[v1, v2] w (Tells5 true w) := by
  obtain ⟨A1, c1, e1, _⟩ := id h1
  obtain ⟨A2, c2, e2, _⟩ := id h2
  subst e1 e2
  have H1 := Lib.hid h1
  have H2 := Lib.hid h2
  clear h1 h2
  obtain ⟨n, hln⟩ : ∃ n, n = L.length := ⟨_, rfl⟩
  rw [← hln] at h12 H1 H2 ⊢
  have HL := Lib.hid hln
  clear hln
  go_enter Tryd.func21, Tryd.ntmps21
  go_wp2
  go_loopg [5, 13] n (fun gg _ s13 wr => ∃ k : Nat, k ≤ n ∧ n - k ≤ gg ∧ s13 = .int .i64 k ∧ Hid (Below w.heap.size w wr))
  case atStart => exact ⟨0, Nat.zero_le _, by omega, rfl, Below.refl _ _⟩
  case round =>
    obtain ⟨k, hk, hg, rfl, HW⟩ := hrel
    by_cases hlt : k < n
    · have hltz : (k : Int) < (n : Int) := by omega
      have hkl : k < L.length := HL.out ▸ hlt
      obtain ⟨B1, d1, f1, hc1⟩ := H1.out.later HW.out
      obtain ⟨B2, d2, f2, hc2⟩ := H2.out.later HW.out
      injection f1 with f1 f1n f1c
      injection f2 with f2 f2n f2c
      clear f1n f2n
      subst f1 f2 f1c f2c
      obtain ⟨g1, rfl, x0, x1⟩ := hc1 k hkl
      obtain ⟨g2, rfl, y0, y1⟩ := hc2 k hkl
      clear hc1 hc2
      have Lg1 : g1 < wr.heap.size := World.block_lt_of_cell? wr _ x0
      have Lg2 : g2 < wr.heap.size := World.block_lt_of_cell? wr _ y0
      generalize tx7 L[k].1 = s at *
      generalize tx7 L[k].2 = h at *
      have Cg10 := Lib.hid x0
      have Cg11 := Lib.hid x1
      have Cg20 := Lib.hid y0
      have Cg21 := Lib.hid y1
      clear x0 x1 y0 y1
      go_wp2_with fail
      refine wp_region_inv (by kernel_rfl) (fun W => Below wr.heap.size wr W) (YSam9 g1 g2 n k c1 c2 s h) ?F ?hF (by kernel_rfl) (by kernel_rfl) (below_drew (Below.refl _ _)) ?step ?fin
      case hF =>
        intro x
        simp only [List.map_cons, List.map_nil, putL, Act.put, List.setIfInBounds_toArray, List.set_cons_zero, List.set_cons_succ, Nat.zero_add, Nat.reduceAdd]
        exact rfl
      case step =>
        refine ⟨?_, ?_, ?_, ?_, ?_, ?_, ?_, ?_, ?_, trivial⟩
        all_goals intro x W hW hdep K hK
        · clear hdep
          go_simp
          exact hK _ _ rfl hW (fun _ _ h => h)
        · clear hdep
          go_simp
          exact hK _ _ rfl hW (fun _ _ h => h)
        · have h0 : x 0 = _ := hdep 0 rfl
          have h1 : x 1 = _ := hdep 1 rfl
          clear hdep
          simp only [h0, h1] at hK
          go_simp
          exact hK _ _ rfl hW (fun _ _ h => h)
        · have h2 : x 2 = _ := hdep 2 rfl
          have d0 := (hW.cell (p := ⟨g1, k * 2, none⟩) Lg1).trans Cg10.out
          have d1 := (hW.cell (p := ⟨g1, k * 2 + 1, none⟩) Lg1).trans Cg11.out
          clear hdep
          simp only [h2] at hK
          go_simp
          exact hK _ _ rfl hW (fun _ _ h => h)
        · clear hdep
          go_simp
          exact hK _ _ rfl hW (fun _ _ h => h)
        · clear hdep
          go_simp
          exact hK _ _ rfl hW (fun _ _ h => h)
        · have h4 : x 4 = _ := hdep 4 rfl
          have h5 : x 5 = _ := hdep 5 rfl
          clear hdep
          simp only [h4, h5] at hK
          go_simp
          exact hK _ _ rfl hW (fun _ _ h => h)
        · have h6 : x 6 = _ := hdep 6 rfl
          have d0 := (hW.cell (p := ⟨g2, k * 2, none⟩) Lg2).trans Cg20.out
          have d1 := (hW.cell (p := ⟨g2, k * 2 + 1, none⟩) Lg2).trans Cg21.out
          clear hdep
          simp only [h6] at hK
          go_simp
          exact hK _ _ rfl hW (fun _ _ h => h)
        · have h3 : x 3 = _ := hdep 3 rfl
          have h7 : x 7 = _ := hdep 7 rfl
          have hq := neq9 s h W
          clear hdep
          simp only [h3, h7] at hK
          go_simp
          exact hK _ _ rfl hW (fun _ _ h => h)
      case fin =>
        intro x W hW hY
        have h8 : x 8 = _ := hY 8 (by decide)
        have HB := Lib.hid (below_next HW.out hW)
        clear hY hW
        rw [h8]
        go_wp2
        go_roundg (n - (k + 1))
        case measure => omega
        case rel => exact ⟨k + 1, by omega, by omega, by go_num, HB⟩
    · have hltz : ¬ (k : Int) < (n : Int) := by omega
      go_wp2
      go_ret
      exact ⟨rfl, HW.out⟩
end Go.Proofs.YtiodbghokiajjaaDoor
