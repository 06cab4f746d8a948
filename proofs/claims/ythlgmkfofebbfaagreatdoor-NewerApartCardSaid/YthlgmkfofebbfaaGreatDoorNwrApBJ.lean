/-
  The texts that the laws of this seat share, part 10: what the code and the document's own answers tell, walked function by function.
  Conditions: each theorem's own.
-/
import Derived.Test.YthlgmkfofebbfaaGreatDoorNwrApBA
import Derived.Test.YthlgmkfofebbfaaGreatDoorNwrApBB
import Derived.Test.YthlgmkfofebbfaaGreatDoorNwrApBC
import Derived.Test.YthlgmkfofebbfaaGreatDoorNwrApBD
import Derived.Test.YthlgmkfofebbfaaGreatDoorNwrApBE
import Derived.Test.YthlgmkfofebbfaaGreatDoorNwrApBF
import Derived.Test.YthlgmkfofebbfaaGreatDoorNwrApBG
import Derived.Test.YthlgmkfofebbfaaGreatDoorNwrApBH
import Derived.Test.YthlgmkfofebbfaaGreatDoorNwrApBI
namespace Go.Proofs.YthlgmkfofebbfaaGreatDoor
open Go.RowKit Go.Maps Go.Shelf

def YSaV11 (g1 o1 g2 o2 n k c1 c2 : Nat) (a1 a2 : Array Value) : Nat → Value → World → Prop
 | 0, v, _ => v = .slice (some ⟨g1, o1, none⟩) n c1
 | 1, v, _ => v = .int .i64 k
 | 2, v, _ => v = .pointer (some ⟨g1, o1 + k * 5, none⟩)
 | 3, v, _ => v = .agg a1
 | 4, v, _ => v = .slice (some ⟨g2, o2, none⟩) n c2
 | 5, v, _ => v = .int .i64 k
 | 6, v, _ => v = .pointer (some ⟨g2, o2 + k * 5, none⟩)
 | 7, v, _ => v = .agg a2
 | 8, v, _ => v = .bool true
 | _, v, _ => v = .bool false
theorem YSaV11_keep {g1 o1 g2 o2 n k c1 c2 : Nat} {a1 a2 : Array Value} {W W' : World} (j : Nat) (z : Value) (hz : YSaV11 g1 o1 g2 o2 n k c1 c2 a1 a2 j z W) : YSaV11 g1 o1 g2 o2 n k c1 c2 a1 a2 j z W' := by
 match j, hz with
 | 0, hz => exact hz
 | 1, hz => exact hz
 | 2, hz => exact hz
 | 3, hz => exact hz
 | 4, hz => exact hz
 | 5, hz => exact hz
 | 6, hz => exact hz
 | 7, hz => exact hz
 | 8, hz => exact hz
 | _ + 9, hz => exact hz

set_option maxRecDepth 100000 in
set_option maxHeartbeats 2000000 in
theorem sameusers11V_calls (A1 A2 : Option Addr) (c1 c2 n : Nat) (l1 l2 : List Us) (w : World) (hl1 : n = l1.length) (hl2 : n = l2.length) (hn : n ≤ 1000) (h1 : RdU7 w A1 l1) (h2 : RdU7 w A2 l2) (o1 : ∀ u ∈ l1, u.Ok w) (o2 : ∀ u ∈ l2, u.Ok w)
  (hs : ∀ k (i1 : k < l1.length) (i2 : k < l2.length), sameU l1[k] l2[k] = true) :
  Calls Tryz.prog 16 #[.slice A1 n c1, .slice A2 n c2] w (Tells5 true w) := by
 have hnot : ∀ (x : Bool) (w : World), (Op.unary .not (.bool x)).run Tryz.prog w = .ok (.bool (!x)) w := fun _ _ => rfl
 have H1 := Lib.hid h1
 have H2 := Lib.hid h2
 have L1 := Lib.hid hl1
 have L2 := Lib.hid hl2
 have O1 := Lib.hid o1
 have O2 := Lib.hid o2
 have HSM := Lib.hid hs
 clear h1 h2 hl1 hl2 o1 o2 hs
 go_enter Tryz.func16, Tryz.ntmps16
 go_wp2
 go_loopg [5, 13] n (fun gg _ s13 wr => ∃ k : Nat, k ≤ n ∧ n - k ≤ gg ∧ s13 = .int .i64 k ∧ Hid (Below w.heap.size w wr))
 case atStart => exact ⟨0, Nat.zero_le _, by omega, rfl, Below.refl _ _⟩
 case round =>
  obtain ⟨k, hk, hg, rfl, HW⟩ := hrel
  by_cases hlt : k < n
  ·
   have hltz : (k : Int) < (n : Int) := by omega
   have hk1 : k < l1.length := L1.out ▸ hlt
   have hk2 : k < l2.length := L2.out ▸ hlt
   obtain ⟨g1, o1, rfl, Lg1, q1⟩ := (H1.out.later HW.out) (by intro e; rw [e] at hk1; exact absurd hk1 (Nat.not_lt_zero _))
   obtain ⟨g2, o2, rfl, Lg2, q2⟩ := (H2.out.later HW.out) (by intro e; rw [e] at hk2; exact absurd hk2 (Nat.not_lt_zero _))
   have HS : Hid (∀ W, Below wr.heap.size wr W → Calls Tryz.prog 58 #[.agg #[.string l1[k].nm, .string l1[k].hs, .string l1[k].ml, .bool l1[k].dis, .slice l1[k].ga l1[k].gs.length l1[k].gc], .agg #[.string l2[k].nm, .string l2[k].hs, .string l2[k].ml, .bool l2[k].dis, .slice l2[k].ga l2[k].gs.length l2[k].gc]] W (Tells5 true W)) := fun W hb => by
    have := rsame6_calls l1[k] l2[k] W (((O1.out _ (List.getElem_mem hk1)).below HW.out).below hb) (((O2.out _ (List.getElem_mem hk2)).below HW.out).below hb)
    rwa [HSM.out k hk1 hk2] at this
   have C10 : Hid (wr.cell? ⟨g1, o1 + k * 5, none⟩ = some (.string l1[k].nm)) := q1 k hk1 0 _ rfl
   have C11 : Hid (wr.cell? ⟨g1, o1 + k * 5 + 1, none⟩ = some (.string l1[k].hs)) := q1 k hk1 1 _ rfl
   have C12 : Hid (wr.cell? ⟨g1, o1 + k * 5 + 2, none⟩ = some (.string l1[k].ml)) := q1 k hk1 2 _ rfl
   have C13 : Hid (wr.cell? ⟨g1, o1 + k * 5 + 3, none⟩ = some (.bool l1[k].dis)) := q1 k hk1 3 _ rfl
   have C14 : Hid (wr.cell? ⟨g1, o1 + k * 5 + 4, none⟩ = some (.slice l1[k].ga l1[k].gs.length l1[k].gc)) := q1 k hk1 4 _ rfl
   have C20 : Hid (wr.cell? ⟨g2, o2 + k * 5, none⟩ = some (.string l2[k].nm)) := q2 k hk2 0 _ rfl
   have C21 : Hid (wr.cell? ⟨g2, o2 + k * 5 + 1, none⟩ = some (.string l2[k].hs)) := q2 k hk2 1 _ rfl
   have C22 : Hid (wr.cell? ⟨g2, o2 + k * 5 + 2, none⟩ = some (.string l2[k].ml)) := q2 k hk2 2 _ rfl
   have C23 : Hid (wr.cell? ⟨g2, o2 + k * 5 + 3, none⟩ = some (.bool l2[k].dis)) := q2 k hk2 3 _ rfl
   have C24 : Hid (wr.cell? ⟨g2, o2 + k * 5 + 4, none⟩ = some (.slice l2[k].ga l2[k].gs.length l2[k].gc)) := q2 k hk2 4 _ rfl
   clear q1 q2
   generalize l1[k].nm = nm1 at *
   generalize l1[k].hs = hs1 at *
   generalize l1[k].ml = ml1 at *
   generalize l1[k].dis = dis1 at *
   generalize l1[k].ga = ga1 at *
   generalize l1[k].gs.length = gl1 at *
   generalize l1[k].gc = gc1 at *
   generalize l2[k].nm = nm2 at *
   generalize l2[k].hs = hs2 at *
   generalize l2[k].ml = ml2 at *
   generalize l2[k].dis = dis2 at *
   generalize l2[k].ga = ga2 at *
   generalize l2[k].gs.length = gl2 at *
   generalize l2[k].gc = gc2 at *
   go_wp2_with fail
   refine wp_region_inv (by kernel_rfl) (fun W => Below wr.heap.size wr W) (YSaV11 g1 o1 g2 o2 n k c1 c2 #[.string nm1, .string hs1, .string ml1, .bool dis1, .slice ga1 gl1 gc1] #[.string nm2, .string hs2, .string ml2, .bool dis2, .slice ga2 gl2 gc2]) ?F ?hF (by kernel_rfl) (by kernel_rfl) (below_drew (Below.refl _ _)) ?step ?fin
   case hF =>
    intro x
    simp only [List.map_cons, List.map_nil, putL, Act.put, List.setIfInBounds_toArray, List.set_cons_zero, List.set_cons_succ, Nat.zero_add, Nat.reduceAdd]
    exact rfl
   case step =>
    refine ⟨?_, ?_, ?_, ?_, ?_, ?_, ?_, ?_, ?_, ?_, trivial⟩
    all_goals intro x W hW hdep K hK
    ·
     clear hdep
     go_simp
     exact hK _ _ rfl hW (fun _ _ h => h)
    ·
     clear hdep
     go_simp
     exact hK _ _ rfl hW (fun _ _ h => h)
    ·
     have h0 : x 0 = _ := hdep 0 rfl
     have h1 : x 1 = _ := hdep 1 rfl
     clear hdep
     simp only [h0, h1] at hK
     go_simp
     exact hK _ _ rfl hW (fun _ _ h => h)
    ·
     have h2 : x 2 = _ := hdep 2 rfl
     have d0 := (hW.cell (p := ⟨g1, o1 + k * 5, none⟩) Lg1).trans C10.out
     have d1 := (hW.cell (p := ⟨g1, o1 + k * 5 + 1, none⟩) Lg1).trans C11.out
     have d2 := (hW.cell (p := ⟨g1, o1 + k * 5 + 2, none⟩) Lg1).trans C12.out
     have d3 := (hW.cell (p := ⟨g1, o1 + k * 5 + 3, none⟩) Lg1).trans C13.out
     have d4 := (hW.cell (p := ⟨g1, o1 + k * 5 + 4, none⟩) Lg1).trans C14.out
     clear hdep
     simp only [h2] at hK
     go_simp
     exact hK _ _ rfl hW (fun _ _ h => h)
    ·
     clear hdep
     go_simp
     exact hK _ _ rfl hW (fun _ _ h => h)
    ·
     clear hdep
     go_simp
     exact hK _ _ rfl hW (fun _ _ h => h)
    ·
     have h4 : x 4 = _ := hdep 4 rfl
     have h5 : x 5 = _ := hdep 5 rfl
     clear hdep
     simp only [h4, h5] at hK
     go_simp
     exact hK _ _ rfl hW (fun _ _ h => h)
    ·
     have h6 : x 6 = _ := hdep 6 rfl
     have d0 := (hW.cell (p := ⟨g2, o2 + k * 5, none⟩) Lg2).trans C20.out
     have d1 := (hW.cell (p := ⟨g2, o2 + k * 5 + 1, none⟩) Lg2).trans C21.out
     have d2 := (hW.cell (p := ⟨g2, o2 + k * 5 + 2, none⟩) Lg2).trans C22.out
     have d3 := (hW.cell (p := ⟨g2, o2 + k * 5 + 3, none⟩) Lg2).trans C23.out
     have d4 := (hW.cell (p := ⟨g2, o2 + k * 5 + 4, none⟩) Lg2).trans C24.out
     clear hdep
     simp only [h6] at hK
     go_simp
     exact hK _ _ rfl hW (fun _ _ h => h)
    ·
     have h3 : x 3 = _ := hdep 3 rfl
     have h7 : x 7 = _ := hdep 7 rfl
     clear hdep
     simp only [h3, h7] at hK
     go_simp
     refine (HS.out W hW).mono ?_
     rintro e W' ⟨rfl, hb⟩
     exact hK _ _ rfl (below_next hW hb) (fun j u hz => YSaV11_keep j u hz)
    ·
     have h8 : x 8 = _ := hdep 8 rfl
     clear hdep
     simp only [h8] at hK
     go_simp
     exact hK _ _ rfl hW (fun _ _ h => h)
   case fin =>
    intro x W hW hY
    have h9 : x 9 = .bool false := hY 9 (by decide)
    have HF := Lib.hid (below_next HW.out hW)
    clear hY hW Lg1 Lg2
    rw [h9]
    go_wp2
    go_roundg (n - (k + 1))
    case measure => omega
    case rel => exact ⟨k + 1, by omega, by omega, by go_num, HF⟩
  ·
   have hltz : ¬ (k : Int) < (n : Int) := by omega
   obtain rfl : k = n := by omega
   go_wp2
   go_ret
   exact ⟨rfl, HW.out⟩

def us11 (q : List UInt8 × W11) : Us := ⟨tx10 q.1, q.2.hs, q.2.ml, q.2.dis, q.2.ga, q.2.gs.map tx10, q.2.gc⟩
theorem us11_cells (q : List UInt8 × W11) : (us11 q).cells = (cu11 q).toArray := by
 unfold us11 Us.cells cu11
 simp
theorem rd_us11 {w : World} {A : Option Addr} {c n : Nat} {R : RowV W11} (h : Us11r w (.slice A n c) R) : n = (R.map us11).length ∧ RdU7 w A (R.map us11) := by
 obtain ⟨A', c', e, hc⟩ := h
 injection e with e1 e2 e3
 subst e1 e2 e3
 refine ⟨by simp, fun hne => ?_⟩
 have h0 : 0 < R.length := by
  rcases R with _ | ⟨q, r⟩
  ·
   exact absurd rfl hne
  ·
   exact Nat.succ_pos _
 obtain ⟨g, e, hg⟩ := hc 0 h0
 refine ⟨g, 0, e, World.block_lt_of_cell? w _ (hg 0 _ rfl), fun i hi j u hu => ?_⟩
 have hi' : i < R.length := by simpa using hi
 obtain ⟨g', e', hg'⟩ := hc i hi'
 rw [e] at e'
 injection e' with e'
 injection e' with e'
 subst e'
 have hu' : (cu11 R[i])[j]? = some u := by
  rw [List.getElem_map, us11_cells] at hu
  simpa using hu
 have := hg' j u hu'
 rwa [Nat.zero_add]
structure Short11 (T : Usr11) : Prop where
 few : T.length ≤ 12
 nm : ∀ p ∈ T, p.1.length ≤ 1000
 hs : ∀ p ∈ T, p.2.hs.length ≤ 1000
 ml : ∀ p ∈ T, p.2.ml.length ≤ 1000
 gs : ∀ p ∈ T, ∀ g ∈ p.2.gs, g.length ≤ 1000
theorem short11 {A : Acc11} {L : Row7} {S : Grs10} {k : Nat} (hg : Good11 A L S k) : Short11 (tell11 A L S) := by
 have hq : ∀ p ∈ tell11 A L S, ∃ q ∈ A, p = (q.1, tell1 L S q.1 q.2) := fun p hp => by
  obtain ⟨q, hq, e⟩ := List.mem_map.1 hp
  exact ⟨q, hq, e.symm⟩
 refine ⟨by rw [tell_len]; exact hg.few, fun p hp => ?_, fun p hp => ?_, fun p hp => ?_, fun p hp g hgg => ?_⟩
 ·
  obtain ⟨q, hq, rfl⟩ := hq p hp
  exact Nat.le_trans (name10_len (hg.nm q hq).1) (by decide)
 ·
  obtain ⟨q, hq, rfl⟩ := hq p hp
  exact hash11_len (hg.nm q hq).2
 ·
  obtain ⟨q, hq, rfl⟩ := hq p hp
  show (getE L q.1).length ≤ 1000
  cases hh : hasE L q.1 with
  | false => rw [getE_none hh]; simp
  | true =>
   have := hg.all _ (hasE_mem hh)
   exact Nat.le_trans (mail5_len this.2.1) (by decide)
 ·
  obtain ⟨q, hq, rfl⟩ := hq p hp
  have h1 := of10_sub hgg
  obtain ⟨x, hx, rfl⟩ := List.mem_map.1 h1
  exact Nat.le_trans (name10_len (hg.grp.named x hx)) (by decide)
theorem us11_ok {w : World} {q : List UInt8 × W11} (hr : w.ownsRow 0 9 1 (.slice q.2.ga q.2.gs.length q.2.gc) q.2.gs.length (q.2.gs.map encStr)) (h1 : q.1.length ≤ 1000) (h2 : q.2.hs.size ≤ 1000) (h3 : q.2.ml.size ≤ 1000) (h4 : ∀ g ∈ q.2.gs, g.length ≤ 1000) : (us11 q).Ok w := by
 refine ⟨fun hne => ?_, ?_, Nat.le_trans h2 (by decide), Nat.le_trans h3 (by decide), fun hn => ?_, ?_, ?_, fun s hs => ?_⟩
 ·
  have hn0 : 0 < q.2.gs.length := by
   rcases hq : q.2.gs with _ | ⟨a, r⟩
   ·
    exact absurd (show (us11 q).gs = [] by unfold us11; rw [hq]; rfl) hne
   ·
    exact Nat.succ_pos _
  obtain ⟨g, cx, e, c0⟩ := NmR.at_ (N := q.2.gs) hr (k := 0) hn0
  injection e with e
  refine ⟨g, 0, e, World.block_lt_of_cell? w _ c0, fun j hj => ?_⟩
  have hj' : j < q.2.gs.length := by have : (us11 q).gs.length = q.2.gs.length := List.length_map _; omega
  obtain ⟨g', cx', e', cj⟩ := NmR.at_ (N := q.2.gs) hr (k := j) hj'
  injection e' with e'
  rw [e] at e'
  injection e' with e'
  injection e' with e'
  subst e'
  rw [Nat.zero_add, cj]
  have eg : (us11 q).gs[j] = tx10 q.2.gs[j] := List.getElem_map ..
  rw [eg]
 ·
  show (tx10 q.1).size ≤ _
  rw [tx10_size]; exact Nat.le_trans h1 (by decide)
 ·
  rcases hr.2 with ⟨e, _⟩ | ⟨g, cap, cur, e, _⟩
  ·
   injection e
  ·
   injection e with e; rw [show q.2.ga = none from hn] at e; cases e
 ·
  show (q.2.gs.map tx10).length ≤ q.2.gc
  rw [List.length_map]
  rcases hr.2 with ⟨e, h0⟩ | ⟨g, cap, cur, e, _, _, r1, _⟩
  ·
   omega
  ·
   injection e with _ _ e; omega
 ·
  rcases hr.2 with ⟨e, h0⟩ | ⟨g, cap, cur, e, _, _, r1, r2, _⟩
  ·
   injection e with _ _ e; show q.2.gc ≤ _; omega
  ·
   injection e with _ _ e
   show q.2.gc ≤ _
   have := r2
   unfold maxLen at this
   omega
 ·
  obtain ⟨g, hg, rfl⟩ := List.mem_map.1 hs
  rw [tx10_size]; exact Nat.le_trans (h4 g hg) (by decide)
theorem same11_calls (v1 v2 : Value) (R1 R2 : RowV W11) (T : Usr11) (w : World) (h1 : Rc11 0 R1 w v1) (h2 : Rc11 0 R2 w v2) (e1 : plainR R1 = T) (e2 : plainR R2 = T) (hs : Short11 T) :
  Calls Tryz.prog 16 #[v1, v2] w (Tells5 true w) := by
 have hl1 : R1.length = T.length := by rw [← e1, plainR_len]
 have hl2 : R2.length = T.length := by rw [← e2, plainR_len]
 have ok : ∀ (R : RowV W11), plainR R = T → Gs11 0 w R → ∀ u ∈ R.map us11, u.Ok w := fun R e hg u hu => by
  obtain ⟨q, hq, rfl⟩ := List.mem_map.1 hu
  have hm : (q.1, q.2.u) ∈ T := by rw [← e]; exact List.mem_map.2 ⟨q, hq, rfl⟩
  have a2 := hs.hs _ hm
  have a3 := hs.ml _ hm
  exact us11_ok (hg q hq) (hs.nm _ hm) (by rw [← size_list]; exact a2) (by rw [← size_list]; exact a3) (hs.gs _ hm)
 obtain ⟨A1, c1, rfl⟩ := h1.rw.us.shape
 obtain ⟨A2, c2, rfl⟩ := h2.rw.us.shape
 have r1 := (rd_us11 h1.rw.us).2
 have r2 := (rd_us11 h2.rw.us).2
 have o1 := ok R1 e1 h1.2
 have o2 := ok R2 e2 h2.2
 rw [hl1, hl2]
 refine sameusers11V_calls A1 A2 c1 c2 T.length (R1.map us11) (R2.map us11) w (by simp [hl1]) (by simp [hl2]) (by have := hs.few; omega) r1 r2 o1 o2 fun k i1 i2 => ?_
 rw [List.getElem_map, List.getElem_map]
 have k1 : k < R1.length := by simpa using i1
 have k2 : k < R2.length := by simpa using i2
 have hp : (R1[k].1, R1[k].2.u) = (R2[k].1, R2[k].2.u) := by
  have q1 : (plainR R1)[k]? = some (R1[k].1, R1[k].2.u) := by simp [plainR, k1]
  have q2 : (plainR R2)[k]? = some (R2[k].1, R2[k].2.u) := by simp [plainR, k2]
  rw [e1] at q1
  rw [e2] at q2
  rw [q1] at q2
  injection q2
 generalize R1[k] = x1 at *
 generalize R2[k] = x2 at *
 obtain ⟨n1, ⟨a1, b1, d1, g1, s1, t1⟩⟩ := x1
 obtain ⟨n2, ⟨a2, b2, d2, g2, s2, t2⟩⟩ := x2
 injection hp with p1 p2
 unfold W11.u at p2
 injection p2 with p2 p3 p4 p5
 dsimp only at p1 p2 p3 p4 p5
 have hb : ∀ x y : ByteArray, x.data.toList = y.data.toList → x = y := fun x y h => by rw [← tx10_back x, ← tx10_back y, h]
 have hz1 := hb _ _ p2
 have hz2 := hb _ _ p3
 subst p1 p4 p5 hz1 hz2
 unfold sameU us11
 simp

def YSm11 (D b0 n : Nat) (v vg : Value) (T : Usr11) (N : List (List UInt8)) : Nat → Value → World → Prop
 | 1, u, _ => u = .int .i64 n
 | 2, u, _ => u = .pointer (some ⟨b0, 0, none⟩)
 | 3, u, _ => u = v
 | 4, u, _ => u = .int .i64 n
 | 5, u, _ => u = .bool true
 | 6, u, _ => u = .bool true
 | 8, u, W => ∃ R, Rc11 0 R W u ∧ plainR R = T
 | 9, u, _ => u = .pointer (some ⟨b0, 0, none⟩)
 | 10, u, _ => u = v
 | 11, u, _ => u = .bool true
 | 12, u, _ => u = .bool true
 | 13, u, _ => u = .bool true
 | 15, u, W => NmR W u N
 | 16, u, _ => u = .pointer (some ⟨b0, 1, none⟩)
 | 17, u, _ => u = vg
 | 18, u, _ => u = .bool true
 | 19, u, _ => u = .bool true
 | 20, u, _ => u = .bool true
 | _, u, _ => u = .pointer (some ⟨D, 0, none⟩)
theorem YSm11_keep {D b0 n : Nat} {v vg : Value} {T : Usr11} {N : List (List UInt8)} {W W' : World} (hb : Below W.heap.size W W') (j : Nat) (u : Value) (h : YSm11 D b0 n v vg T N j u W) : YSm11 D b0 n v vg T N j u W' := by
 by_cases h8 : j = 8
 ·
  subst h8
  obtain ⟨R, hr, e⟩ := (show ∃ R, Rc11 0 R W u ∧ plainR R = T from h)
  exact ⟨R, hr.later hb, e⟩
 by_cases h15 : j = 15
 ·
  subst h15
  exact NmR.later (show NmR W u N from h) hb
 revert h
 unfold YSm11
 split <;> first | exact id | (exfalso; omega)
section
variable {w0 w : World} {D P M G : Nat} {A : Acc11} {L : Row7} {S : Grs10} {k : Nat}
set_option maxRecDepth 100000 in
set_option maxHeartbeats 4000000 in
theorem lsame11_calls (R : RowV W11) (v vg : Value) (ho : Own11 w0 w D P M G A L S) (hg : Good11 A L S k) (hR : Rc11 0 R w v) (hN : NmR w vg (names10 S)) (hp : plainR R = tell11 A L S) :
  Calls Tryz.prog 11 #[.pointer (some ⟨D, 0, none⟩), .agg #[v, vg]] w (Tells5 true w) := by
 have HLN : Hid (∀ W, Below w.heap.size w W → Calls Tryz.prog 49 #[.pointer (some ⟨D, 0, none⟩)] W fun e w' => e = .returned (.int .i64 R.length) ∧ w' = W) := fun W hb => by
  have := nlen11_calls (ho.later hb)
  rwa [show A.length = R.length by rw [← plainR_len R, hp, tell_len]] at this
 have HAL : Hid (∀ W, Below w.heap.size w W → Calls Tryz.prog 25 #[.pointer (some ⟨D, 0, none⟩)] W fun e w' => ∃ v R, e = .returned v ∧ Rc11 0 R w' v ∧ plainR R = tell11 A L S ∧ Below W.heap.size W w') := fun W hb =>
  (nall11_calls (ho.later hb) hg).mono fun e w' ⟨v, R, he, hr, hpl, hb'⟩ => ⟨v, R, he, hr.low (Nat.zero_le _), hpl, hb'⟩
 have HGR : Hid (∀ W, Below w.heap.size w W → Calls Tryz.prog 50 #[.pointer (some ⟨D, 0, none⟩)] W fun e w' => ∃ v, e = .returned v ∧ NmR w' v (names10 S) ∧ Below W.heap.size W w') := fun W hb =>
  (ngroups11_calls (ho.later hb) hg.grp).mono fun e w' ⟨v, he, hr, hb'⟩ => ⟨v, he, NmR.of hr, hb'⟩
 have HS := Lib.hid (short11 hg)
 have HNL : Hid ((names10 S).length ≤ 1000) := by show _ ≤ _; rw [names10_length]; have := hg.grp.few; omega
 have HRC := Lib.hid hR
 have HNN := Lib.hid hN
 have HPL := Lib.hid hp
 obtain ⟨A0, c, rfl⟩ := hR.rw.us.shape
 obtain ⟨A1, c1, rfl⟩ := hN.shape
 have HX := Lib.hid (bx11_new w (.slice A0 R.length c) (.slice A1 (names10 S).length c1))
 have HB0 : Hid (Below w.heap.size w (w.alloc (.cells #[.slice A0 R.length c, .slice A1 (names10 S).length c1] TD11))) := below_alloc (Below.refl _ _) _
 clear ho hg hR hN hp
 generalize hT : tell11 A L S = T at *
 generalize hNm : names10 S = N at *
 clear hT hNm
 obtain ⟨n, hn2⟩ : ∃ m, m = R.length := ⟨_, rfl⟩
 obtain ⟨n1, hn3⟩ : ∃ m, m = N.length := ⟨_, rfl⟩
 rw [← hn2] at HLN HRC HX HB0 ⊢
 rw [← hn3] at HNN HNL HX HB0 ⊢
 have HN3 := Lib.hid hn3
 clear hn2 hn3
 go_enter Tryz.func11, Tryz.ntmps11
 go_wp2_with fail
 generalize w.alloc (.cells #[.slice A0 n c, .slice A1 n1 c1] TD11) = w1 at *
 refine wp_region_inv (by kernel_rfl) (fun W => Below w1.heap.size w1 W) (YSm11 D w.heap.size n (.slice A0 n c) (.slice A1 n1 c1) T N) ?F ?hF (by kernel_rfl) (by kernel_rfl) (below_drew (Below.refl _ _)) ?step ?fin
 case hF =>
  intro x
  simp only [List.map_cons, List.map_nil, putL, Act.put, List.setIfInBounds_toArray, List.set_cons_zero, List.set_cons_succ, Nat.zero_add, Nat.reduceAdd]
  exact rfl
 case step =>
  refine ⟨?_, ?_, ?_, ?_, ?_, ?_, ?_, ?_, ?_, ?_, ?_, ?_, ?_, ?_, ?_, ?_, ?_, ?_, ?_, ?_, ?_, trivial⟩
  ·
   intro x W hR hdep K hK
   clear hdep
   go_simp
   exact hK _ _ rfl hR (fun _ _ h => h)
  ·
   intro x W hR hdep K hK
   have h0 : x 0 = _ := hdep 0 rfl
   clear hdep
   simp only [h0] at hK
   go_simp
   refine (HLN.out W (below_next HB0.out hR)).mono ?_
   rintro e W' ⟨rfl, rfl⟩
   exact hK _ _ rfl hR (fun _ _ h => h)
  ·
   intro x W hR hdep K hK
   clear hdep
   go_simp
   exact hK _ _ rfl hR (fun _ _ h => h)
  ·
   intro x W hR hdep K hK
   have h2 : x 2 = _ := hdep 2 rfl
   clear hdep
   simp only [h2] at hK
   have q0 := (HX.out.later hR).c0
   go_simp
   exact hK _ _ rfl hR (fun _ _ h => h)
  ·
   intro x W hR hdep K hK
   have h3 : x 3 = _ := hdep 3 rfl
   clear hdep
   simp only [h3] at hK
   go_simp
   exact hK _ _ rfl hR (fun _ _ h => h)
  ·
   intro x W hR hdep K hK
   have h1 : x 1 = _ := hdep 1 rfl
   have h4 : x 4 = _ := hdep 4 rfl
   clear hdep
   simp only [h1, h4] at hK
   go_simp
   exact hK _ _ rfl hR (fun _ _ h => h)
  ·
   intro x W hR hdep K hK
   have h5 : x 5 = _ := hdep 5 rfl
   clear hdep
   simp only [h5] at hK
   go_simp
   exact hK _ _ rfl hR (fun _ _ h => h)
  ·
   intro x W hR hdep K hK
   have h6 : x 6 = _ := hdep 6 rfl
   clear hdep
   simp only [h6] at hK
   go_simp
   exact hK _ _ rfl hR (fun _ _ h => h)
  ·
   intro x W hR hdep K hK
   have h6 : x 6 = _ := hdep 6 rfl
   have h7 : x 7 = _ := hdep 7 rfl
   clear hdep
   simp only [h6, h7] at hK
   go_simp
   refine (HAL.out W (below_next HB0.out hR)).mono ?_
   rintro e W' ⟨v, R', rfl, hr, hpl, hb⟩
   exact hK _ _ ⟨R', hr, hpl⟩ (below_next hR hb) (fun j u h => YSm11_keep hb j u h)
  ·
   intro x W hR hdep K hK
   have h6 : x 6 = _ := hdep 6 rfl
   clear hdep
   simp only [h6] at hK
   go_simp
   exact hK _ _ rfl hR (fun _ _ h => h)
  ·
   intro x W hR hdep K hK
   have h6 : x 6 = _ := hdep 6 rfl
   have h9 : x 9 = _ := hdep 9 rfl
   clear hdep
   simp only [h6, h9] at hK
   have q0 := (HX.out.later hR).c0
   go_simp
   exact hK _ _ rfl hR (fun _ _ h => h)
  ·
   intro x W hR hdep K hK
   have hA : ∃ R, Rc11 0 R W (x 8) ∧ plainR R = T := hdep 8 rfl
   obtain ⟨R1, h8, e8⟩ := hA
   have h6 : x 6 = _ := hdep 6 rfl
   have h10 : x 10 = _ := hdep 10 rfl
   clear hdep
   simp only [h6, h10] at hK
   go_simp
   refine (same11_calls _ _ R1 R T W h8 (HRC.out.later (below_next HB0.out hR)) e8 HPL.out HS.out).mono ?_
   rintro e W' ⟨rfl, hb⟩
   exact hK _ _ rfl (below_next hR hb) (fun j u h => YSm11_keep hb j u h)
  ·
   intro x W hR hdep K hK
   have h6 : x 6 = _ := hdep 6 rfl
   have h11 : x 11 = _ := hdep 11 rfl
   clear hdep
   simp only [h6, h11] at hK
   go_simp
   exact hK _ _ rfl hR (fun _ _ h => h)
  ·
   intro x W hR hdep K hK
   have h12 : x 12 = _ := hdep 12 rfl
   clear hdep
   simp only [h12] at hK
   go_simp
   exact hK _ _ rfl hR (fun _ _ h => h)
  ·
   intro x W hR hdep K hK
   have h13 : x 13 = _ := hdep 13 rfl
   clear hdep
   simp only [h13] at hK
   go_simp
   exact hK _ _ rfl hR (fun _ _ h => h)
  ·
   intro x W hR hdep K hK
   have h13 : x 13 = _ := hdep 13 rfl
   have h14 : x 14 = _ := hdep 14 rfl
   clear hdep
   simp only [h13, h14] at hK
   go_simp
   refine (HGR.out W (below_next HB0.out hR)).mono ?_
   rintro e W' ⟨v, rfl, hr, hb⟩
   exact hK _ _ hr (below_next hR hb) (fun j u h => YSm11_keep hb j u h)
  ·
   intro x W hR hdep K hK
   have h13 : x 13 = _ := hdep 13 rfl
   clear hdep
   simp only [h13] at hK
   go_simp
   exact hK _ _ rfl hR (fun _ _ h => h)
  ·
   intro x W hR hdep K hK
   have h13 : x 13 = _ := hdep 13 rfl
   have h16 : x 16 = _ := hdep 16 rfl
   clear hdep
   simp only [h13, h16] at hK
   have q1 := (HX.out.later hR).c1
   go_simp
   exact hK _ _ rfl hR (fun _ _ h => h)
  ·
   intro x W hR hdep K hK
   have h15 : NmR W (x 15) N := hdep 15 rfl
   have h13 : x 13 = _ := hdep 13 rfl
   have h17 : x 17 = _ := hdep 17 rfl
   clear hdep
   simp only [h13, h17] at hK
   go_simp
   refine (samet10_calls _ _ N W h15 (HNN.out.later (below_next HB0.out hR)) (by rw [← HN3.out]; exact HNL.out)).mono ?_
   rintro e W' ⟨rfl, hb⟩
   exact hK _ _ rfl (below_next hR hb) (fun j u h => YSm11_keep hb j u h)
  ·
   intro x W hR hdep K hK
   have h13 : x 13 = _ := hdep 13 rfl
   have h18 : x 18 = _ := hdep 18 rfl
   clear hdep
   simp only [h13, h18] at hK
   go_simp
   exact hK _ _ rfl hR (fun _ _ h => h)
  ·
   intro x W hR hdep K hK
   have h19 : x 19 = _ := hdep 19 rfl
   clear hdep
   simp only [h19] at hK
   go_simp
   exact hK _ _ rfl hR (fun _ _ h => h)
 case fin =>
  intro x W hW hY
  have h20 : x 20 = _ := hY 20 (by decide)
  have HBE := Lib.hid (below_next HB0.out hW)
  clear hY hW HLN HAL HGR HRC HNN HX
  rw [h20]
  go_wp2
  go_ret
  exact ⟨rfl, HBE.out⟩
end
end Go.Proofs.YthlgmkfofebbfaaGreatDoor


namespace Go.Proofs.YthlgmkfofebbfaaGreatDoor
open Go.ChangeShapes Go.WideShapes Go.ChangeAt Go.RowKit Go.Deep

structure ActN where
 kd : Nat
 nm : ByteArray
 hs : ByteArray
 is_ : Bool
def ActN.cells (t : ActN) : List Value := [.int .u8 (t.kd : Int), .string t.nm, .string t.hs, .bool t.is_]
def RdAN (w : World) (A : Option Addr) (l : List ActN) : Prop :=
 l ≠ [] → ∃ b off, A = some ⟨b, off, none⟩ ∧ b < w.heap.size ∧ ∀ i (hi : i < l.length) j u, l[i].cells[j]? = some u → w.cell? ⟨b, off + i * 4 + j, none⟩ = some u
theorem RdAN.later {w w' : World} {A : Option Addr} {l : List ActN} (h : RdAN w A l) (hb : Below w.heap.size w w') : RdAN w' A l := fun hl => by
 obtain ⟨b, off, rfl, hlt, hc⟩ := h hl
 exact ⟨b, off, rfl, Nat.lt_of_lt_of_le hlt hb.size, fun i hi j u hu => (hb.cell (p := ⟨b, off + i * 4 + j, none⟩) hlt).trans (hc i hi j u hu)⟩
def IsActsN (w : World) (A : Option Addr) (len : Nat) (l : List ActN) : Prop := len = l.length ∧ l.length ≤ 9223372036854775807 ∧ RdAN w A l ∧ ∀ t ∈ l, t.kd < 256 ∧ t.nm.size ≤ 9223372036854775807 ∧ t.hs.size ≤ 9223372036854775807

theorem cellsOfU8n : Tryz.prog.cellsOf 5 = 1 := by kernel_rfl
theorem cellsOfStrn : Tryz.prog.cellsOf 9 = 1 := by kernel_rfl
theorem cellsOfBooln : Tryz.prog.cellsOf 4 = 1 := by kernel_rfl
theorem cellsOfActn : Tryz.prog.cellsOf 32 = 4 := by kernel_rfl
theorem pick_actn (d : ActN) {φ : Nat → ActN → Prop} {m : Nat} (h : ∀ i, i < m → ∃ t, φ i t) : ∃ T : Nat → ActN, ∀ i, i < m → φ i (T i) := by
 refine ⟨fun i => if hi : i < m then Classical.choose (h i hi) else d, fun i hi => ?_⟩
 have : (if hi : i < m then Classical.choose (h i hi) else d) = Classical.choose (h i hi) := dif_pos hi
 show φ i (if hi : i < m then Classical.choose (h i hi) else d)
 rw [this]
 exact Classical.choose_spec (h i hi)
section
variable {H : Type} {enc : TypeId × Value → H} {W : World} {base : Nat} {sp : Nat → Bool} {hd : Bool} {fuel : Nat}
set_option maxRecDepth 100000 in
theorem actn_of {cs : List Value} {x : DataW H × List MemPlace} (h : DataW.trod enc Tryz.prog W base sp hd fuel 32 cs = some x) :
  ∃ t : ActN, cs = t.cells ∧ t.kd < 256 ∧ t.nm.size ≤ 9223372036854775807 ∧ t.hs.size ≤ 9223372036854775807 := by
 obtain ⟨ys, n, _, _, hlen, hyl, hf⟩ := DataW.trod_struct Tryz.underlying32 h
 rw [cellsOfActn] at hlen
 match cs, hlen, ys, hyl with
 | [c0, c1, c2, c3], _, [y0, y1, y2, y3], _ =>
  have f0 : DataW.trod enc Tryz.prog W base sp hd n 5 (([c0, c1, c2, c3].drop 0).take (Tryz.prog.cellsOf 5)) = some y0 := hf 0 _ rfl
  have f1 : DataW.trod enc Tryz.prog W base sp hd n 9 (([c0, c1, c2, c3].drop 1).take (Tryz.prog.cellsOf 9)) = some y1 := hf 1 _ rfl
  have f2 : DataW.trod enc Tryz.prog W base sp hd n 9 (([c0, c1, c2, c3].drop 2).take (Tryz.prog.cellsOf 9)) = some y2 := hf 2 _ rfl
  have f3 : DataW.trod enc Tryz.prog W base sp hd n 4 (([c0, c1, c2, c3].drop 3).take (Tryz.prog.cellsOf 4)) = some y3 := hf 3 _ rfl
  rw [cellsOfBooln] at f3
  rw [cellsOfU8n] at f0
  rw [cellsOfStrn] at f1 f2
  obtain ⟨kd, e0, _, w0⟩ := DataW.trod_int Tryz.underlying5 f0
  obtain ⟨nm, e1, _, w1⟩ := DataW.trod_string Tryz.underlying9 f1
  obtain ⟨hs, e2, _, w2⟩ := DataW.trod_string Tryz.underlying9 f2
  obtain ⟨is_, e3, _⟩ := DataW.trod_bool Tryz.underlying4 f3
  simp only [List.drop_zero, List.drop_succ_cons, List.take_succ_cons, List.take_zero, List.cons.injEq, and_true] at e0 e1 e2 e3
  subst e0 e1 e2 e3
  have b0 := bounds_u8 w0
  obtain ⟨kn, rfl⟩ := Int.eq_ofNat_of_zero_le b0.1
  exact ⟨⟨kn, nm, hs, is_⟩, rfl, by show kn < 256; omega, Nat.le_trans w1 (by decide), Nat.le_trans w2 (by decide)⟩

set_option maxRecDepth 100000 in
theorem actns_of {a : Option Addr} {len cap : Nat} {d : DataW H} {p : List MemPlace} (h : DataW.Trod enc Tryz.prog W base sp hd 22 (.slice a len cap) d p) : ∃ l, IsActsN W a len l := by
 obtain ⟨fuel, hf⟩ := h
 rcases open_slice Tryz.underlying22 hf with ⟨hcs, _⟩ | ⟨x, l, c, m, n, D, Pl, hcs, _, hl, hm, hmm, _, hi⟩
 ·
  simp [Value.cells] at hcs
  obtain ⟨rfl, rfl, rfl⟩ := hcs
  exact ⟨[], rfl, by simp, fun h => absurd rfl h, by simp⟩
 ·
  simp [Value.cells] at hcs
  obtain ⟨rfl, rfl, rfl⟩ := hcs
  have hlm : len ≤ m := by rw [hmm]; split <;> omega
  rw [cellsOfActn] at hi
  have hex : ∀ i, i < m → ∃ t : ActN, (∀ j, j < 4 → W.cell? ((x.add (i * 4)).add j) = t.cells[j]?) ∧ t.kd < 256 ∧ t.nm.size ≤ 9223372036854775807 ∧ t.hs.size ≤ 9223372036854775807 := by
   intro i him
   obtain ⟨cs', hc, ht'⟩ := hi i him
   obtain ⟨t, rfl, hrest⟩ := actn_of ht'
   exact ⟨t, (World.cells?_some hc).2.2, hrest⟩
  obtain ⟨T, hT⟩ := pick_actn ⟨0, ⟨#[]⟩, ⟨#[]⟩, false⟩ hex
  refine ⟨(List.range len).map T, by simp, by simpa [maxLen] using Nat.le_trans hl hm, fun hne => ?_, fun t ht => ?_⟩
  ·
   have hp : 0 < len := by
    rcases Nat.eq_zero_or_pos len with h | h
    ·
     subst h; simp at hne
    ·
     exact h
   have hc0 := (hT 0 (by omega)).1 0 (by omega)
   have h00 : (T 0).cells[0]? = some (.int .u8 (T 0).kd) := rfl
   rw [h00, Nat.zero_mul] at hc0
   have hx : x = ⟨x.block, x.off, none⟩ := by
    have hs : x.spot = none := World.cell?_spot hc0
    rw [← hs]
   refine ⟨x.block, x.off, by rw [← hx], ?_, fun i hi' j u hu => ?_⟩
   ·
    exact World.block_lt_of_cell? W _ hc0
   ·
    rw [List.length_map, List.length_range] at hi'
    have e : ((List.range len).map T)[i]'(by simpa using hi') = T i := by simp
    rw [e] at hu
    have hj : j < 4 := (List.getElem?_eq_some_iff.1 hu).1
    have := (hT i (by omega)).1 j hj
    rw [hx, Addr.add_lit, Addr.add_lit] at this
    exact this.trans hu
  ·
   obtain ⟨i, hi', rfl⟩ := List.mem_map.1 ht
   rw [List.mem_range] at hi'
   exact (hT i (by omega)).2
end
end Go.Proofs.YthlgmkfofebbfaaGreatDoor


namespace Go.Proofs.YthlgmkfofebbfaaGreatDoor
open Go.RowKit Go.Maps

def littleL11 (t : ActN) : Bool := decide (t.nm.size ≤ 50) && decide (t.hs.size ≤ 50)
def few11L (l : List ActN) : Bool := l.all littleL11 && decide (l.length ≤ 60)

set_option maxRecDepth 100000 in
set_option maxHeartbeats 1000000 in
theorem few11L_calls (A : Option Addr) (c n : Nat) (l : List ActN) (w : World) (hl : n = l.length) (hn : n ≤ 9223372036854775807) (hr : RdAN w A l) :
  Calls Tryz.prog 8 #[.slice A n c] w (Tells5 (few11L l) w) := by
 have HR := Lib.hid hr
 have HL := Lib.hid hl
 clear hr hl
 obtain ⟨r, hr⟩ : ∃ r, r = few11L l := ⟨_, rfl⟩
 rw [← hr]
 have HRR := Lib.hid hr
 clear hr
 go_enter Tryz.func8, Tryz.ntmps8
 go_wp2
 go_loopg [4, 7] n (fun gg _ s7 wr => ∃ k : Nat, k ≤ n ∧ n - k ≤ gg ∧ s7 = .int .i64 k ∧ Hid (Below w.heap.size w wr) ∧ Hid (∀ j (h : j < l.length), j < k → littleL11 l[j] = true))
 case atStart => exact ⟨0, Nat.zero_le _, by omega, rfl, Below.refl _ _, fun j _ hj => absurd hj (Nat.not_lt_zero _)⟩
 case round =>
  obtain ⟨k, hk, hg, rfl, HW, A0⟩ := hrel
  by_cases hlt : k < n
  ·
   have hltz : (k : Int) < (n : Int) := by omega
   have hkl : k < l.length := HL.out ▸ hlt
   obtain ⟨b, off, rfl, hb, hc⟩ := (HR.out.later HW.out) (by intro e; rw [e] at hkl; exact absurd hkl (Nat.not_lt_zero _))
   have c0 : wr.cell? ⟨b, off + k * 4, none⟩ = some (.int .u8 (l[k].kd : Int)) := hc k hkl 0 _ rfl
   have c1 : wr.cell? ⟨b, off + k * 4 + 1, none⟩ = some (.string l[k].nm) := hc k hkl 1 _ rfl
   have c2 : wr.cell? ⟨b, off + k * 4 + 2, none⟩ = some (.string l[k].hs) := hc k hkl 2 _ rfl
   have c3 : wr.cell? ⟨b, off + k * 4 + 3, none⟩ = some (.bool l[k].is_) := hc k hkl 3 _ rfl
   have HX : Hid (littleL11 l[k] = true → ∀ j (h : j < l.length), j < k + 1 → littleL11 l[j] = true) := fun hq j h hj => by
    by_cases e : j = k
    ·
     subst e; exact hq
    ·
     exact A0.out j h (by omega)
   have HF : Hid (littleL11 l[k] = false → r = false) := fun hf => by
    rw [HRR.out]
    have : l.all littleL11 = false := List.all_eq_false.2 ⟨l[k], List.getElem_mem hkl, by rw [hf]; simp⟩
    unfold few11L
    rw [this]; rfl
   have HB3 := Lib.hid (below_next HW.out (below_alloc (Below.refl wr.heap.size wr) (.cells #[.int .u8 (l[k].kd : Int), .string l[k].nm, .string l[k].hs, .bool l[k].is_] 32)))
   unfold littleL11 at HX HF
   clear hc hb A0
   generalize l[k].kd = kd at *
   generalize l[k].nm = nm at *
   generalize l[k].hs = hs at *
   generalize l[k].is_ = is_ at *
   by_cases h1 : nm.size ≤ 50
   ·
    by_cases h2 : hs.size ≤ 50
    ·
     have HY := Lib.hid (HX.out (by simp [h1, h2]))
     have z1 : ¬ (nm.size : Int) > 50 := by omega
     have z2 : ¬ (hs.size : Int) > 50 := by omega
     have y1 : ¬ 50 < nm.size := by omega
     have y2 : ¬ 50 < hs.size := by omega
     have x1 : decide ((nm.size : Int) > 50) = false := decide_eq_false z1
     have x2 : decide ((hs.size : Int) > 50) = false := decide_eq_false z2
     clear HX HF
     go_wp2
     go_roundg (n - (k + 1))
     case measure => omega
     case rel => exact ⟨k + 1, by omega, by omega, by go_num, HB3, HY⟩
    ·
     have hr : r = false := HF.out (by simp [h2])
     subst hr
     have z1 : ¬ (nm.size : Int) > 50 := by omega
     have z2 : (hs.size : Int) > 50 := by omega
     have y1 : ¬ 50 < nm.size := by omega
     have y2 : 50 < hs.size := by omega
     have x1 : decide ((nm.size : Int) > 50) = false := decide_eq_false z1
     have x2 : decide ((hs.size : Int) > 50) = true := decide_eq_true z2
     clear HX HF
     go_wp2
     go_ret
     exact ⟨rfl, HB3.out⟩
   ·
    have hr : r = false := HF.out (by simp [h1])
    subst hr
    have z1 : (nm.size : Int) > 50 := by omega
    have y1 : 50 < nm.size := by omega
    have x1 : decide ((nm.size : Int) > 50) = true := decide_eq_true z1
    clear HX HF
    go_wp2
    go_ret
    exact ⟨rfl, HB3.out⟩
  ·
   have hltz : ¬ (k : Int) < (n : Int) := by omega
   obtain rfl : k = n := by omega
   have hr0 : r = decide (k ≤ 60) := by
    rw [HRR.out]
    have : l.all littleL11 = true := by
     rw [List.all_eq_true]
     intro x hx
     obtain ⟨j, hj, rfl⟩ := List.getElem_of_mem hx
     exact A0.out j hj (by have := HL.out; omega)
    unfold few11L
    rw [this, ← HL.out]; rfl
   have HZ := Lib.hid hr0
   clear A0 hr0
   by_cases h60 : k ≤ 60
   ·
    have z : (k : Int) ≤ 60 := by omega
    go_wp2
    go_ret
    exact ⟨by rw [HZ.out, decide_eq_true h60]; rfl, HW.out⟩
   ·
    have z : ¬ (k : Int) ≤ 60 := by omega
    go_wp2
    go_ret
    exact ⟨by rw [HZ.out, decide_eq_false h60]; rfl, HW.out⟩


theorem few11L_len {l : List ActN} (h : few11L l = true) : l.length ≤ 60 := by
 unfold few11L at h
 simp only [Bool.and_eq_true, decide_eq_true_eq] at h
 exact h.2
theorem few11L_size {l : List ActN} (h : few11L l = true) : ∀ t ∈ l, t.nm.size ≤ 50 ∧ t.hs.size ≤ 50 := by
 unfold few11L at h
 simp only [Bool.and_eq_true] at h
 intro t ht
 have := List.all_eq_true.1 h.1 t ht
 unfold littleL11 at this
 simpa using this
def ann11 : List UInt8 := [97, 110, 110]
def bob11 : List UInt8 := [98, 111, 98]
theorem ex11_1 : crE11 [] ann11 [49] = 0 ∧ crA11 [] ann11 [49] = [(ann11, ([49], false))] := by decide +kernel
theorem ex11_2 : smE11 [(ann11, ([49], false))] [] ann11 [65, 64, 98, 46, 99] = 0 ∧ smL11 [(ann11, ([49], false))] [] ann11 [65, 64, 98, 46, 99] = [(ann11, [97, 64, 98, 46, 99])] := by decide +kernel
theorem ex11_3 : rnE11 [(ann11, ([49], false))] ann11 bob11 = 0 ∧ rnA11 [(ann11, ([49], false))] ann11 bob11 = [(bob11, ([49], false))] ∧ rnL11 [(ann11, ([49], false))] [(ann11, [97, 64, 98, 46, 99])] ann11 bob11 = [(bob11, [97, 64, 98, 46, 99])] ∧ rnS11 [(ann11, ([49], false))] [] ann11 bob11 = [] := by decide +kernel
theorem ex11_4 : fiE9 [(bob11, [97, 64, 98, 46, 99])] [97, 64, 98, 46, 99] = 0 ∧ fiS9 [(bob11, [97, 64, 98, 46, 99])] [97, 64, 98, 46, 99] = bob11 := by decide +kernel
set_option maxRecDepth 100000 in
set_option maxHeartbeats 2000000 in
theorem lives11_calls (w : World) (h5 : Len5 w) : Calls Tryz.prog 7 #[] w (Tells5 true w) := by
 have HN := Lib.hid (nnew11_calls w)
 have HC1 : Hid (∀ W D P M G, Own11 w W D P M G [] [] [] → Calls Tryz.prog 27 #[.pointer (some ⟨D, 0, none⟩), .string ⟨#[97, 110, 110]⟩, .string ⟨#[49]⟩] W fun e w' => e = .returned (.int .i64 0) ∧ Own11 w w' D P M G [(ann11, ([49], false))] [] []) := fun W D P M G h => by
  have := create11_calls ⟨#[97, 110, 110]⟩ ⟨#[49]⟩ h Good11.nil (by decide) (by decide)
  rw [show crE11 [] (ByteArray.mk #[97, 110, 110]).data.toList (ByteArray.mk #[49]).data.toList = 0 from ex11_1.1, show crA11 [] (ByteArray.mk #[97, 110, 110]).data.toList (ByteArray.mk #[49]).data.toList = _ from ex11_1.2] at this
  exact this.mono fun e w' ⟨he, hgo⟩ => ⟨he, hgo.1⟩
 have HC2 : Hid (∀ W D P M G, Own11 w W D P M G [(ann11, ([49], false))] [] [] → Calls Tryz.prog 28 #[.pointer (some ⟨D, 0, none⟩), .string ⟨#[97, 110, 110]⟩, .string ⟨#[65, 64, 98, 46, 99]⟩] W fun e w' => e = .returned (.int .i64 0) ∧ Own11 w w' D P M G [(ann11, ([49], false))] [(ann11, [97, 64, 98, 46, 99])] []) := fun W D P M G h => by
  have := setMail11_calls ⟨#[97, 110, 110]⟩ ⟨#[65, 64, 98, 46, 99]⟩ h (by decide) (h5.later h.below) (by decide) (by decide)
  rw [show smE11 [(ann11, ([49], false))] [] (ByteArray.mk #[97, 110, 110]).data.toList (ByteArray.mk #[65, 64, 98, 46, 99]).data.toList = 0 from ex11_2.1, show smL11 [(ann11, ([49], false))] [] (ByteArray.mk #[97, 110, 110]).data.toList (ByteArray.mk #[65, 64, 98, 46, 99]).data.toList = _ from ex11_2.2] at this
  exact this.mono fun e w' ⟨he, hgo⟩ => ⟨he, hgo.1⟩
 have hg1 : Good11 [(ann11, ([49], false))] [] [] 1 := by
  have := (cr_one Good11.nil ann11 [49]).1
  rwa [ex11_1.2] at this
 have hg2 : Good11 [(ann11, ([49], false))] [(ann11, [97, 64, 98, 46, 99])] [] 2 := by
  have := (sm_one hg1 ann11 [65, 64, 98, 46, 99]).1
  rwa [ex11_2.2] at this
 have HC3 : Hid (∀ W D P M G, Own11 w W D P M G [(ann11, ([49], false))] [(ann11, [97, 64, 98, 46, 99])] [] → Calls Tryz.prog 29 #[.pointer (some ⟨D, 0, none⟩), .string ⟨#[97, 110, 110]⟩, .string ⟨#[98, 111, 98]⟩] W fun e w' => e = .returned (.int .i64 0) ∧ Own11 w w' D P M G [(bob11, ([49], false))] [(bob11, [97, 64, 98, 46, 99])] []) := fun W D P M G h => by
  have := rename11_calls ⟨#[97, 110, 110]⟩ ⟨#[98, 111, 98]⟩ h hg2 (by decide) (by decide) (by decide)
  rw [show rnE11 [(ann11, ([49], false))] (ByteArray.mk #[97, 110, 110]).data.toList (ByteArray.mk #[98, 111, 98]).data.toList = 0 from ex11_3.1, show rnA11 [(ann11, ([49], false))] (ByteArray.mk #[97, 110, 110]).data.toList (ByteArray.mk #[98, 111, 98]).data.toList = _ from ex11_3.2.1, show rnL11 [(ann11, ([49], false))] [(ann11, [97, 64, 98, 46, 99])] (ByteArray.mk #[97, 110, 110]).data.toList (ByteArray.mk #[98, 111, 98]).data.toList = _ from ex11_3.2.2.1, show rnS11 [(ann11, ([49], false))] [] (ByteArray.mk #[97, 110, 110]).data.toList (ByteArray.mk #[98, 111, 98]).data.toList = _ from ex11_3.2.2.2] at this
  exact this.mono fun e w' ⟨he, hgo⟩ => ⟨he, hgo.1⟩
 have HC4 : Hid (∀ W D P M G, Own11 w W D P M G [(bob11, ([49], false))] [(bob11, [97, 64, 98, 46, 99])] [] → Calls Tryz.prog 14 #[.pointer (some ⟨D, 0, none⟩), .string ⟨#[97, 64, 98, 46, 99]⟩] W fun e w' => e = .returned (.tuple #[.string ⟨#[98, 111, 98]⟩, .int .i64 0]) ∧ Below W.heap.size W w') := fun W D P M G h => by
  have := nfind11_calls ⟨#[97, 64, 98, 46, 99]⟩ h (by decide) (h5.later h.below)
  rw [show fiE9 [(bob11, [97, 64, 98, 46, 99])] (ByteArray.mk #[97, 64, 98, 46, 99]).data.toList = 0 from ex11_4.1, show fiS9 [(bob11, [97, 64, 98, 46, 99])] (ByteArray.mk #[97, 64, 98, 46, 99]).data.toList = bob11 from ex11_4.2] at this
  exact this
 clear h5 hg1 hg2
 go_enter Tryz.func7, Tryz.ntmps7
 go_wp2_with fail
 with_reducible refine HN.out.mono ?_
 rintro e w1 ⟨D, P, M, G, rfl, ho⟩
 have HO1 := Lib.hid ho
 clear ho HN
 go_wp2_with fail
 with_reducible refine (HC1.out w1 D P M G HO1.out).mono ?_
 rintro e w2 ⟨rfl, ho⟩
 have HO2 := Lib.hid ho
 clear ho HC1 HO1
 go_wp2_with fail
 with_reducible refine (HC2.out w2 D P M G HO2.out).mono ?_
 rintro e w3 ⟨rfl, ho⟩
 have HO3 := Lib.hid ho
 clear ho HC2 HO2
 go_wp2_with fail
 with_reducible refine (HC3.out w3 D P M G HO3.out).mono ?_
 rintro e w4 ⟨rfl, ho⟩
 have HO4 := Lib.hid ho
 clear ho HC3 HO3
 go_wp2_with fail
 with_reducible refine (HC4.out w4 D P M G HO4.out).mono ?_
 rintro e w5 ⟨rfl, hb⟩
 have HB := Lib.hid (below_next HO4.out.below hb)
 clear hb HC4 HO4
 go_wp2
 go_ret
 exact ⟨rfl, HB.out⟩
def Loop11 (w0 : World) (D P M G Wb k : Nat) (wr : World) : Prop :=
 ∃ A L S R A1 C1 A2 C2, Own11 w0 wr D P M G A L S ∧ Good11 A L S k ∧ Bx11 wr Wb (.slice A1 (List.length R) C1) (.slice A2 (List.length (names10 S)) C2) ∧ Rc11 0 R wr (.slice A1 (List.length R) C1) ∧ NmR wr (.slice A2 (List.length (names10 S)) C2) (names10 S) ∧ plainR R = tell11 A L S
theorem loop11_later {w0 W W' : World} {D P M G Wb k : Nat} (h : Loop11 w0 D P M G Wb k W) (hb : Below W.heap.size W W') : Loop11 w0 D P M G Wb k W' := by
 obtain ⟨A, L, S, R, A1, C1, A2, C2, ho, hg, hx, hr, hn, hp⟩ := h
 exact ⟨A, L, S, R, A1, C1, A2, C2, ho.later hb, hg, hx.later hb, hr.later hb, hn.later hb, hp⟩
end Go.Proofs.YthlgmkfofebbfaaGreatDoor

