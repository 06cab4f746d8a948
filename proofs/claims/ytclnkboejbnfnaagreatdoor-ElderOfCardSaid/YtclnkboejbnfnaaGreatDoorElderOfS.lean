/-
  The law's SameUsers tells that rows of users are the same where each is the same; All's answer as a row of users.
  Conditions: as many of both.
-/
import Derived.Test.YtclnkboejbnfnaaGreatDoorElderFew
import Derived.Test.YtclnkboejbnfnaaGreatDoorElderOf
import Derived.Test.YtclnkboejbnfnaaGreatDoorUserH
namespace Go.Proofs.YtclnkboejbnfnaaGreatDoor
open Go.RowKit Go.Maps Go.Sort Go.Shelf

/-- A bare user. -/
def bare7 (q : List UInt8 × List UInt8) : Us := ⟨tx7 q.1, tx7 q.2, ⟨#[]⟩, false, none, [], 0⟩
theorem bare7_ok {q : List UInt8 × List UInt8} {w : World} (h : q.1.length ≤ 12 ∧ q.2.length ≤ 12) : (bare7 q).Ok w := by
  have s1 : (tx7 q.1).size ≤ 12 := by rw [← size_list]; simpa [tx7] using h.1
  have s2 : (tx7 q.2).size ≤ 12 := by rw [← size_list]; simpa [tx7] using h.2
  exact { rd := fun h => absurd rfl h, nm := Nat.le_trans s1 (by decide), hs := Nat.le_trans s2 (by decide), ml := Nat.zero_le _, nil := fun _ => rfl, len := Nat.le_refl _, cap := Nat.zero_le _, all := fun s hs => by cases hs }
theorem Us7.rd {w : World} {A : Option Addr} {c n : Nat} {Lx : Row7} (h : Us7 w (.slice A n c) Lx) : n = (Lx.map bare7).length ∧ RdU7 w A (Lx.map bare7) := by
  obtain ⟨A', c', e, hc⟩ := h
  injection e with e1 e2 e3
  subst e1 e2 e3
  refine ⟨by simp, fun hne => ?_⟩
  have h0 : 0 < Lx.length := by
    rcases Lx with _ | ⟨q, r⟩
    · exact absurd rfl hne
    · exact Nat.succ_pos _
  obtain ⟨g, e, hg⟩ := hc 0 h0
  refine ⟨g, 0, e, World.block_lt_of_cell? w _ (hg 0 _ rfl), fun i hi j u hu => ?_⟩
  have hi' : i < Lx.length := by simpa using hi
  obtain ⟨g', e', hg'⟩ := hc i hi'
  rw [e] at e'
  injection e' with e'
  injection e' with e'
  subst e'
  have hu' : (usr7 Lx[i])[j]? = some u := by
    rw [List.getElem_map] at hu
    have : (bare7 Lx[i]).cells = (usr7 Lx[i]).toArray := rfl
    rw [this] at hu
    simpa using hu
  have := hg' j u hu'
  rwa [Nat.zero_add]

/-- What each operation makes. -/
def YSaV7 (g1 o1 g2 o2 n k c1 c2 : Nat) (a1 a2 : Array Value) : Nat → Value → World → Prop
  | 0, v, _ => v = .slice (some ⟨g1, o1, none⟩) n c1
  | 1, v, _ => v = .int .i64 k
  | 2, v, _ => v = .pointer (some ⟨g1, o1 + k * 5, none⟩)
  | 3, v, _ => v = .agg a1
  | 4, v, _ => v = .slice (some ⟨g2, o2, none⟩) n c2
  | 5, v, _ => v = .int .i64 k
  | 6, v, _ => v = .pointer (some ⟨g2, o2 + k * 5, none⟩)
  | 7, v, _ => v = .agg a2
  | 8, v, _ => v = .bool true
  | _, v, _ => v = .bool false
theorem YSaV7_keep {g1 o1 g2 o2 n k c1 c2 : Nat} {a1 a2 : Array Value} {W W' : World} (j : Nat) (z : Value) (hz : YSaV7 g1 o1 g2 o2 n k c1 c2 a1 a2 j z W) : YSaV7 g1 o1 g2 o2 n k c1 c2 a1 a2 j z W' := by
  match j, hz with
  | 0, hz => exact hz
  | 1, hz => exact hz
  | 2, hz => exact hz
  | 3, hz => exact hz
  | 4, hz => exact hz
  | 5, hz => exact hz
  | 6, hz => exact hz
  | 7, hz => exact hz
  | 8, hz => exact hz
  | _ + 9, hz => exact hz

set_option maxRecDepth 100000 in
set_option maxHeartbeats 2000000 in
theorem sameusersV_calls (A1 A2 : Option Addr) (c1 c2 n : Nat) (l1 l2 : List Us) (w : World) (hl1 : n = l1.length) (hl2 : n = l2.length) (hn : n ≤ 1000) (h1 : RdU7 w A1 l1) (h2 : RdU7 w A2 l2) (o1 : ∀ u ∈ l1, u.Ok w) (o2 : ∀ u ∈ l2, u.Ok w)
    (hs : ∀ k (i1 : k < l1.length) (i2 : k < l2.length), sameU l1[k] l2[k] = true) :
    Calls Tryz.prog 16 #[.slice A1 n c1, .slice A2 n c2] w (Tells5 true w) := by
  have hnot : ∀ (x : Bool) (w : World), (Op.unary .not (.bool x)).run Tryz.prog w = .ok (.bool (!x)) w := fun _ _ => rfl
  have H1 := Lib.hid h1
  have H2 := Lib.hid h2
  have L1 := Lib.hid hl1
  have L2 := Lib.hid hl2
  have O1 := Lib.hid o1
  have O2 := Lib.hid o2
  have HSM := Lib.hid hs
  clear h1 h2 hl1 hl2 o1 o2 hs
  go_enter Tryz.func16, Tryz.ntmps16
  go_wp2
  go_loopg [5, 13] n (fun gg _ s13 wr => ∃ k : Nat, k ≤ n ∧ n - k ≤ gg ∧ s13 = .int .i64 k ∧ Hid (Below w.heap.size w wr))
  case atStart => exact ⟨0, Nat.zero_le _, by omega, rfl, Below.refl _ _⟩
  case round =>
    obtain ⟨k, hk, hg, rfl, HW⟩ := hrel
    by_cases hlt : k < n
    · have hltz : (k : Int) < (n : Int) := by omega
      have hk1 : k < l1.length := L1.out ▸ hlt
      have hk2 : k < l2.length := L2.out ▸ hlt
      obtain ⟨g1, o1, rfl, Lg1, q1⟩ := (H1.out.later HW.out) (by intro e; rw [e] at hk1; exact absurd hk1 (Nat.not_lt_zero _))
      obtain ⟨g2, o2, rfl, Lg2, q2⟩ := (H2.out.later HW.out) (by intro e; rw [e] at hk2; exact absurd hk2 (Nat.not_lt_zero _))
      have HS : Hid (∀ W, Below wr.heap.size wr W → Calls Tryz.prog 51 #[.agg #[.string l1[k].nm, .string l1[k].hs, .string l1[k].ml, .bool l1[k].dis, .slice l1[k].ga l1[k].gs.length l1[k].gc], .agg #[.string l2[k].nm, .string l2[k].hs, .string l2[k].ml, .bool l2[k].dis, .slice l2[k].ga l2[k].gs.length l2[k].gc]] W (Tells5 true W)) := fun W hb => by
        have := rsame6_calls l1[k] l2[k] W (((O1.out _ (List.getElem_mem hk1)).below HW.out).below hb) (((O2.out _ (List.getElem_mem hk2)).below HW.out).below hb)
        rwa [HSM.out k hk1 hk2] at this
      have C10 : Hid (wr.cell? ⟨g1, o1 + k * 5, none⟩ = some (.string l1[k].nm)) := q1 k hk1 0 _ rfl
      have C11 : Hid (wr.cell? ⟨g1, o1 + k * 5 + 1, none⟩ = some (.string l1[k].hs)) := q1 k hk1 1 _ rfl
      have C12 : Hid (wr.cell? ⟨g1, o1 + k * 5 + 2, none⟩ = some (.string l1[k].ml)) := q1 k hk1 2 _ rfl
      have C13 : Hid (wr.cell? ⟨g1, o1 + k * 5 + 3, none⟩ = some (.bool l1[k].dis)) := q1 k hk1 3 _ rfl
      have C14 : Hid (wr.cell? ⟨g1, o1 + k * 5 + 4, none⟩ = some (.slice l1[k].ga l1[k].gs.length l1[k].gc)) := q1 k hk1 4 _ rfl
      have C20 : Hid (wr.cell? ⟨g2, o2 + k * 5, none⟩ = some (.string l2[k].nm)) := q2 k hk2 0 _ rfl
      have C21 : Hid (wr.cell? ⟨g2, o2 + k * 5 + 1, none⟩ = some (.string l2[k].hs)) := q2 k hk2 1 _ rfl
      have C22 : Hid (wr.cell? ⟨g2, o2 + k * 5 + 2, none⟩ = some (.string l2[k].ml)) := q2 k hk2 2 _ rfl
      have C23 : Hid (wr.cell? ⟨g2, o2 + k * 5 + 3, none⟩ = some (.bool l2[k].dis)) := q2 k hk2 3 _ rfl
      have C24 : Hid (wr.cell? ⟨g2, o2 + k * 5 + 4, none⟩ = some (.slice l2[k].ga l2[k].gs.length l2[k].gc)) := q2 k hk2 4 _ rfl
      clear q1 q2
      generalize l1[k].nm = nm1 at *
      generalize l1[k].hs = hs1 at *
      generalize l1[k].ml = ml1 at *
      generalize l1[k].dis = dis1 at *
      generalize l1[k].ga = ga1 at *
      generalize l1[k].gs.length = gl1 at *
      generalize l1[k].gc = gc1 at *
      generalize l2[k].nm = nm2 at *
      generalize l2[k].hs = hs2 at *
      generalize l2[k].ml = ml2 at *
      generalize l2[k].dis = dis2 at *
      generalize l2[k].ga = ga2 at *
      generalize l2[k].gs.length = gl2 at *
      generalize l2[k].gc = gc2 at *
      go_wp2_with fail
      refine wp_region_inv (by kernel_rfl) (fun W => Below wr.heap.size wr W) (YSaV7 g1 o1 g2 o2 n k c1 c2 #[.string nm1, .string hs1, .string ml1, .bool dis1, .slice ga1 gl1 gc1] #[.string nm2, .string hs2, .string ml2, .bool dis2, .slice ga2 gl2 gc2]) ?F ?hF (by kernel_rfl) (by kernel_rfl) (below_drew (Below.refl _ _)) ?step ?fin
      case hF =>
        intro x
        simp only [List.map_cons, List.map_nil, putL, Act.put, List.setIfInBounds_toArray, List.set_cons_zero, List.set_cons_succ, Nat.zero_add, Nat.reduceAdd]
        exact rfl
      case step =>
        refine ⟨?_, ?_, ?_, ?_, ?_, ?_, ?_, ?_, ?_, ?_, trivial⟩
        all_goals intro x W hW hdep K hK
        · clear hdep
          go_simp
          exact hK _ _ rfl hW (fun _ _ h => h)
        · clear hdep
          go_simp
          exact hK _ _ rfl hW (fun _ _ h => h)
        · have h0 : x 0 = _ := hdep 0 rfl
          have h1 : x 1 = _ := hdep 1 rfl
          clear hdep
          simp only [h0, h1] at hK
          go_simp
          exact hK _ _ rfl hW (fun _ _ h => h)
        · have h2 : x 2 = _ := hdep 2 rfl
          have d0 := (hW.cell (p := ⟨g1, o1 + k * 5, none⟩) Lg1).trans C10.out
          have d1 := (hW.cell (p := ⟨g1, o1 + k * 5 + 1, none⟩) Lg1).trans C11.out
          have d2 := (hW.cell (p := ⟨g1, o1 + k * 5 + 2, none⟩) Lg1).trans C12.out
          have d3 := (hW.cell (p := ⟨g1, o1 + k * 5 + 3, none⟩) Lg1).trans C13.out
          have d4 := (hW.cell (p := ⟨g1, o1 + k * 5 + 4, none⟩) Lg1).trans C14.out
          clear hdep
          simp only [h2] at hK
          go_simp
          exact hK _ _ rfl hW (fun _ _ h => h)
        · clear hdep
          go_simp
          exact hK _ _ rfl hW (fun _ _ h => h)
        · clear hdep
          go_simp
          exact hK _ _ rfl hW (fun _ _ h => h)
        · have h4 : x 4 = _ := hdep 4 rfl
          have h5 : x 5 = _ := hdep 5 rfl
          clear hdep
          simp only [h4, h5] at hK
          go_simp
          exact hK _ _ rfl hW (fun _ _ h => h)
        · have h6 : x 6 = _ := hdep 6 rfl
          have d0 := (hW.cell (p := ⟨g2, o2 + k * 5, none⟩) Lg2).trans C20.out
          have d1 := (hW.cell (p := ⟨g2, o2 + k * 5 + 1, none⟩) Lg2).trans C21.out
          have d2 := (hW.cell (p := ⟨g2, o2 + k * 5 + 2, none⟩) Lg2).trans C22.out
          have d3 := (hW.cell (p := ⟨g2, o2 + k * 5 + 3, none⟩) Lg2).trans C23.out
          have d4 := (hW.cell (p := ⟨g2, o2 + k * 5 + 4, none⟩) Lg2).trans C24.out
          clear hdep
          simp only [h6] at hK
          go_simp
          exact hK _ _ rfl hW (fun _ _ h => h)
        · have h3 : x 3 = _ := hdep 3 rfl
          have h7 : x 7 = _ := hdep 7 rfl
          clear hdep
          simp only [h3, h7] at hK
          go_simp
          refine (HS.out W hW).mono ?_
          rintro e W' ⟨rfl, hb⟩
          exact hK _ _ rfl (below_next hW hb) (fun j u hz => YSaV7_keep j u hz)
        · have h8 : x 8 = _ := hdep 8 rfl
          clear hdep
          simp only [h8] at hK
          go_simp
          exact hK _ _ rfl hW (fun _ _ h => h)
      case fin =>
        intro x W hW hY
        have h9 : x 9 = .bool false := hY 9 (by decide)
        have HF := Lib.hid (below_next HW.out hW)
        clear hY hW Lg1 Lg2
        rw [h9]
        go_wp2
        go_roundg (n - (k + 1))
        case measure => omega
        case rel => exact ⟨k + 1, by omega, by omega, by go_num, HF⟩
    · have hltz : ¬ (k : Int) < (n : Int) := by omega
      obtain rfl : k = n := by omega
      go_wp2
      go_ret
      exact ⟨rfl, HW.out⟩
end Go.Proofs.YtclnkboejbnfnaaGreatDoor
